/-
  The law hintlaw.Suggests is proved at this commit: of every script of New, Observe and Suggest the program answers as the document's own package does, where what comes in is of bulk at most 1048576; the package-level tables are as the program's text lays them.
-/
import Derived.Test.YtocbogeoffeolaaGreatDoorLastSuggests
import Derived.Test.YtocbogeoffeolaaGreatDoorP12
namespace Go.Proofs.YtocbogeoffeolaaGreatDoor
open Go

theorem suggests_upto_card : Rows.SuggestsUptoCardSaid :=
  ⟨Claim7.tied_new_at .later [.data, .data, .data, .data] true (Claim7.new_of_sixth (saidSuggests walkSuggests) _ true rfl ⟨rfl, rfl⟩ (by kernel_rfl) (by rfl) plainSuggests) (by kernel_rfl), (fun D hD => by cases hD), suggestsUpto_row_tie, (fun h => by cases h), by kernel_rfl⟩

end Go.Proofs.YtocbogeoffeolaaGreatDoor
