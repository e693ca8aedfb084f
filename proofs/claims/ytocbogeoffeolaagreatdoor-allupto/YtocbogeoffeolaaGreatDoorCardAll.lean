/-
  The law hintlaw.All is proved at this commit, where what is read is of a bulk of 1048576 at the most: for every script of steps the law answers true, and all memory that was there is as it was, however the goroutines of Complete are scheduled; the package-level tables are as the program's text lays them.
-/
import Derived.Test.YtocbogeoffeolaaGreatDoorAllAF
set_option linter.all false
set_option maxHeartbeats 8000000
set_option maxRecDepth 1000000
namespace Go.Proofs.YtocbogeoffeolaaGreatDoor
section
open Go
theorem all_upto_card:Rows.AllUptoCardSaid:=
 ⟨Claim7.tied_new_at .later [.data,.data,.data,.data] true (Claim7.new_of_sixth Xp _ true rfl ⟨rfl,rfl⟩ (by kernel_rfl) (by rfl) SV) (by kernel_rfl),(λD B=>by cases B),allUpto_row_tie,(λh=>by cases h),by kernel_rfl⟩
end
end Go.Proofs.YtocbogeoffeolaaGreatDoor
