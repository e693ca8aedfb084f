/-
  The law hintlaw.Segments is proved at this commit: of every script of New, Upsert, Delete, Flush, Merge, Segments, Dump and Load, on any number of engines, the program answers as the document's own package does, where what comes in is of bulk at most 1048576; the package-level tables are as the program's text lays them.
-/
import Derived.Test.YtocbogeoffeolaaGreatDoorSegAS
import Derived.Test.YtocbogeoffeolaaGreatDoorSegAV
namespace Go.Proofs.YtocbogeoffeolaaGreatDoor
open Go

theorem segments_upto_card : Rows.SegmentsUptoCardSaid :=
  ⟨Claim7.tied_new_at .later [.data, .data, .data, .data] true (Claim7.new_of_sixth (saidSegments (fun a n cap w _ hs hn => walkSegments a n cap w hs hn)) _ true rfl ⟨rfl, rfl⟩ (by kernel_rfl) (by rfl) plainSegments) (by kernel_rfl), (fun D hD => by cases hD), segmentsUpto_row_tie, (fun h => by cases h), by kernel_rfl⟩

end Go.Proofs.YtocbogeoffeolaaGreatDoor

