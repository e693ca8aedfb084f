/-
  The law hintkeep.Wider is proved at this commit: for every slice of raw entries, every slice of raw numbers and every six numbers the law answers true, and all memory that was there is as it was, however the goroutines of Complete are scheduled; the package-level tables are as the program's text lays them.
-/
import Derived.Test.YtocbogeoffeolaaGreatDoorWidAJ
set_option linter.all false
set_option maxHeartbeats 8000000
set_option maxRecDepth 1000000
namespace Go.Proofs.YtocbogeoffeolaaGreatDoor
section
open Go
theorem wider_card:Rows.WiderCardSaid:=
 ⟨Claim7.tied_new_at .later [.data,.data,.data,.data] true (Claim7.new_of_sixth Kv _ true rfl ⟨rfl,rfl⟩ (by kernel_rfl) (by rfl) IQ) (by kernel_rfl),(λD B=>by cases B),wider_row_tie,(λh=>by cases h),by kernel_rfl⟩
end
end Go.Proofs.YtocbogeoffeolaaGreatDoor
