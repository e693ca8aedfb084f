/-
  The law hintkeep.Carried is proved at this commit: for every slice of raw entries, every slice of raw numbers, every raw entry and every six numbers the law answers true, and all memory that was there is as it was, however the goroutines of Complete are scheduled; the package-level tables are as the program's text lays them.
-/
import Derived.Test.YtocbogeoffeolaaGreatDoorCarAJ
set_option linter.all false
set_option maxHeartbeats 8000000
set_option maxRecDepth 1000000
namespace Go.Proofs.YtocbogeoffeolaaGreatDoor
section
open Go
theorem carried_card:Rows.CarriedCardSaid:=
 ⟨Claim7.tied_new_at .later [.data,.data,.data,.data] true (Claim7.new_of_sixth Ij _ true rfl ⟨rfl,rfl⟩ (by kernel_rfl) (by rfl) Eb) (by kernel_rfl),(λD y=>by cases y),carried_row_tie,(λh=>by cases h),by kernel_rfl⟩
end
end Go.Proofs.YtocbogeoffeolaaGreatDoor
