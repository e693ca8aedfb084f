/-
  The law hintkeep.Found is proved at this commit: for every slice of raw entries, every slice of raw numbers and every seven numbers the law answers true, and all memory that was there is as it was, however the goroutines of Complete are scheduled; the package-level tables are as the program's text lays them.
-/
import Derived.Test.YtocbogeoffeolaaGreatDoorFouAK
set_option linter.all false
set_option maxHeartbeats 8000000
set_option maxRecDepth 1000000
namespace Go.Proofs.YtocbogeoffeolaaGreatDoor
section
open Go
theorem found_card:Rows.FoundCardSaid:=
 ⟨Claim7.tied_new_at .later [.data,.data,.data,.data] true (Claim7.new_of_sixth Mg _ true rfl ⟨rfl,rfl⟩ (by kernel_rfl) (by rfl) IY) (by kernel_rfl),(λD y=>by cases y),found_row_tie,(λh=>by cases h),by kernel_rfl⟩
end
end Go.Proofs.YtocbogeoffeolaaGreatDoor
