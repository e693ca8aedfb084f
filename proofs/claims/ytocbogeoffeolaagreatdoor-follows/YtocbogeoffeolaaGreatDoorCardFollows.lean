/-
  The law hintkeep.Follows is proved at this commit: for every slice of raw numbers and every two numbers the law answers true, and all memory that was there is as it was, however the goroutines of Complete are scheduled; the package-level tables are as the program's text lays them.
-/
import Derived.Test.YtocbogeoffeolaaGreatDoorFolBC
set_option linter.unusedVariables false
set_option linter.unusedSimpArgs false
set_option maxHeartbeats 8000000
set_option maxRecDepth 1000000
namespace Go.Proofs.YtocbogeoffeolaaGreatDoor
section
open Go
theorem follows_card:Rows.FollowsCardSaid:=
 ⟨Claim7.tied_new_at .later [.data,.data,.data,.data] true (Claim7.new_of_sixth E2 _ true rfl ⟨rfl,rfl⟩ (by kernel_rfl) (by rfl) Dj) (by kernel_rfl),(λD y=>by cases y),follows_row_tie,(λh=>by cases h),by kernel_rfl⟩
end
end Go.Proofs.YtocbogeoffeolaaGreatDoor
