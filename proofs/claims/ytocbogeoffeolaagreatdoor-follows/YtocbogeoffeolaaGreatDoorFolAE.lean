import Derived.OrdersHeld
import Derived.RegionTactic
set_option linter.unusedVariables false
set_option linter.unusedSimpArgs false
set_option maxHeartbeats 8000000
set_option maxRecDepth 1000000
namespace Go.Proofs.YtocbogeoffeolaaGreatDoor
section
section
variable {P:Program} {md:Region.Mode} {ops:Array Oper} {Q:Exit->Act->World->Prop} {S:World->Prop}
theorem iV(i:Nat)(v:Value){B:Oper}{y:Nat}{listed:Array Bool}{a:Act}{w:World}(D:S w)
  (O:∀w,S w->(execOp a.eval B).run P w=.ok (.value v) w) (h:wpAnyH P md ops Q S y (listed.setIfInBounds i true) (a.put B.dst v) w)
  (hi:ops[i]?=some B:=by rfl) (U:Region.noSelect ops=true:=by kernel_rfl) (W:Region.free md ops listed i=true:=by kernel_rfl)
  (Y:(Region.ready md ops listed).contains i=true:=by kernel_rfl) (hQ:∀c a w,Q (.panic c) (a.put B.dst v) w->Q (.panic c) a w:=by exact λ_ _ _ h=>h)
  (hw:Region.wanted B (yielded ops a.tmps)=true:=by rfl):wpAnyH P md ops Q S (y+1) listed a w:=
 wpAnyH_take hi U W Y hQ (.inl ⟨hw,O⟩) D h
end
end
end Go.Proofs.YtocbogeoffeolaaGreatDoor
