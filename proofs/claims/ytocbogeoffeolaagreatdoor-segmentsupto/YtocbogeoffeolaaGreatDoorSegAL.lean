/-
  WALKS: the program's own: the score of a word behind none, one, two.
-/
import Derived.Test.YtocbogeoffeolaaGreatDoorSegAE
import Derived.Test.YtocbogeoffeolaaGreatDoorSegAI
namespace Go.Proofs.YtocbogeoffeolaaGreatDoor
open Go.RowKit Go.Maps

theorem Rd.alloc {w : World} {v : Value} {xs : List Value} (h : Rd w v xs) (o : Obj) : Rd (w.alloc o) v xs := h.below ((Below.refl _ _).alloc (Nat.le_refl _) _)

end Go.Proofs.YtocbogeoffeolaaGreatDoor

namespace Go.Proofs.YtocbogeoffeolaaGreatDoor
open Go.RowKit Go.Maps

end Go.Proofs.YtocbogeoffeolaaGreatDoor

namespace Go.Proofs.YtocbogeoffeolaaGreatDoor
open Go.RowKit Go.Maps

end Go.Proofs.YtocbogeoffeolaaGreatDoor

