/-
  The law hintkeep.Turned is proved at this commit: for every slice of raw entries, every two slices of raw numbers and every three numbers the law answers true, and all memory that was there is as it was, however the goroutines of Complete are scheduled; the package-level tables are as the program's text lays them.
-/
import Derived.Test.YtocbogeoffeolaaGreatDoorTurAM
set_option linter.all false
set_option maxHeartbeats 8000000
set_option maxRecDepth 1000000
namespace Go.Proofs.YtocbogeoffeolaaGreatDoor
section
open Go
theorem turned_card:Rows.TurnedCardSaid:=
 ⟨Claim7.tied_new_at .later [.data,.data,.data,.data] true (Claim7.new_of_sixth Hh _ true rfl ⟨rfl,rfl⟩ (by kernel_rfl) (by rfl) FE) (by kernel_rfl),(λD y=>by cases y),turned_row_tie,(λh=>by cases h),by kernel_rfl⟩
end
end Go.Proofs.YtocbogeoffeolaaGreatDoor
