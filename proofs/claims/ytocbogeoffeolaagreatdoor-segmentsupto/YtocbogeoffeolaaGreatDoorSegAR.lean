/-
  FROM A CALL OF ONE GOROUTINE TO A ROW THAT SAYS HOW OTHERS LEAVE: where no other goroutine is, none has to leave.
-/
import Derived.Test.YtocbogeoffeolaaGreatDoorRows
import Derived.JoinedCond
import Derived.Handed
namespace Go.Proofs.YtocbogeoffeolaaGreatDoor
open Go

theorem leaving_of_alone {P : Program} {last : Machine} {w : World} {t : Trace} (h : aloneAtReturn P last w t) : leavingAtReturn P last w t := by
  obtain ⟨⟨h1, h2⟩, h3, h4⟩ := h
  refine ⟨h3, ⟨fun g hg => ⟨0, ?_⟩, h2⟩, h4⟩
  unfold Machine.othersDone at h1
  have := List.all_eq_true.1 h1 g hg
  show g.status = .finished
  cases hs : g.status <;> simp_all

theorem open_leaving {a : Assume} {C : Checked} {os : Os} {f : FuncId} {r : Reach} {okI : Program → World → Reach → Nat → FuncId → Input → Prop} {Pre : World → Array Value → Prop} {Post : World → Array Value → Value → World → Prop} {al : Machine → Prop}
    (h : ReturnsInOpen a none C os f r okI Pre Post (aloneAtReturn C.prog) al) : ReturnsInOpen a none C os f r okI Pre Post (leavingAtReturn C.prog) al := by
  obtain ⟨h1, h2, h3, h4, h5⟩ := h
  refine ⟨h1, h2, h3, h4, fun w tape i hf => ?_⟩
  obtain ⟨n, v, w', g1, g2, g3, g4, ⟨j, last, k1, k2, k3⟩, g6⟩ := h5 w tape i hf
  exact ⟨n, v, w', g1, g2, g3, g4, ⟨j, last, k1, k2, leaving_of_alone k3⟩, g6⟩

/-- A row that holds where the call is alone holds where others may leave. -/
theorem holds_leaving {p : Pinned} {s : OpenSpec} {c : OpenClaim} (hwf : c.wf s = true) (hst : c.start = .entering) (hsp : c.stops = []) (hlv : c.leaving = true) (h : OpenClaim.holds p s { c with leaving := false }) : c.holds p s := by
  obtain ⟨_, a2, a3, a4, a5, a6, a7, a8, f, fn, b1, b2, b3, b4, b5, b6, b7, b8, b9, b10, b11, b12, b13, b14, b15, b16, b17, b18, b19, b20, b21, L, hL, hall⟩ := h
  refine ⟨hwf, a2, a3, a4, a5, a6, a7, a8, f, fn, b1, b2, b3, b4, b5, b6, b7, b8, b9, b10, b11, b12, b13, b14, b15, b16, b17, b18, b19, b20, b21, L, hL, fun os st hq H enc inj => ?_⟩
  have h0 := hall os st hq H enc inj
  unfold OpenClaim.form OpenClaim.atReturn at h0 ⊢
  simp only [hst, hsp, hlv] at h0 ⊢
  exact fun F => open_leaving (h0 F)

end Go.Proofs.YtocbogeoffeolaaGreatDoor

