import Derived.Below
set_option linter.all false
namespace Go.Proofs.YtocbogeoffeolaaGreatDoor
theorem o!{p:Prop}(h:p:=by omega):p:=h
theorem k!{p:Prop}(h:p:=by kernel_rfl):p:=h
theorem i!{p:Prop}(h:p:=by simp):p:=h
theorem j!{p:Prop}(h:p:=by simp;omega):p:=h
theorem d!{p:Prop}(h:p:=by decide):p:=h
theorem l!{p:Prop}(h:p:=by rfl):p:=h
theorem a!{p:Prop}(h:p:=by assumption):p:=h
theorem k?{α:Type _}{a:Option α}{b c:α}(h:a=some b)(e:b=c:=by kernel_rfl):a=some c:=h.trans (congrArg some e)
abbrev B?(w:World):=RowKit.Below w.heap.size w
theorem q?{α:Sort _}{a:α}:a=a:=rfl
theorem t!:True:=trivial
theorem u!{p q:Prop}(h:p)(e:p->q:=by intro h;simpa using h):q:=e h
theorem v!{p q:Prop}(h:p)(e:p->q:=by intro h;omega):q:=e h
end Go.Proofs.YtocbogeoffeolaaGreatDoor
