/-
  WALKS: the document's own answer: letter, IsQuery, Fold.
-/
import Derived.Test.YtocbogeoffeolaaGreatDoorProg
import Derived.Test.YtocbogeoffeolaaGreatDoorPlain
import Derived.Test.YtocbogeoffeolaaGreatDoorOwn
import Derived.WalkKit
import Derived.WalkSpells
import Derived.WalkLawsBesides
namespace Go.Proofs.YtocbogeoffeolaaGreatDoor
open Go.RowKit

set_option maxHeartbeats 400000 in
theorem letter_any (c : UInt8) (w : World) :
    Calls Tryz.prog 199 #[.int .u8 c.toNat] w fun e w' => e = .returned (.bool (letterB c)) ∧ w = w' := by
  go_enter Tryz.func199, Tryz.ntmps199
  go_wp2
  all_goals
    go_ret
    refine ⟨ret_bool ?_, rfl⟩
    unfold letterB
    rw [Bool.eq_iff_iff]
    simp only [decide_eq_true_eq, Bool.or_eq_true, true_iff, false_iff, Bool.false_eq_true]
    omega

set_option maxHeartbeats 400000 in
theorem isQuery_any (s : ByteArray) (w : World) (hs : s.size ≤ maxLen) :
    Calls Tryz.prog 142 #[.string s] w fun e w' => e = .returned (.bool (queryB s.data.toList)) ∧ w = w' := by
  unfold maxLen at hs
  by_cases h24 : s.size ≤ 24
  · have hd : decide (24 < (s.size : Int)) = false := by simp; omega
    go_enter Tryz.func142, Tryz.ntmps142
    go_wp2
    go_loop [3] (fun i => ∃ k : Nat, k ≤ s.size ∧ i = .int .i64 k ∧ (s.data.toList.take k).all plainB = true) (fun i => s.size - (intOf i).toNat)
    case atStart => exact ⟨0, Nat.zero_le _, rfl, rfl⟩
    case round =>
      obtain ⟨k, hk, rfl, hall⟩ := hrel
      have HA : Hid ((s.data.toList.take k).all plainB = true) := hall
      clear hall
      by_cases hlt : k < s.size
      · have hts := take_snoc s k hlt
        have HS : Hid (s.data.toList.take (k + 1) = s.data.toList.take k ++ [s[k]]) := hts
        clear hts
        by_cases hp : plainB s[k] = true
        · have HP : Hid (plainB s[k] = true) := hp
          have h1 : 32 ≤ (s[k].toNat : Int) := by simp [plainB] at hp; omega
          have h2 : (s[k].toNat : Int) ≤ 126 := by simp [plainB] at hp; omega
          clear hp
          go_wp2
          go_round
          case rel => exact ⟨k + 1, by omega, by go_num, by rw [HS.out, List.all_append, HA.out]; simp [HP.out]⟩
          case measure => simp [intOf]; omega
        · have HP : Hid (¬ plainB s[k] = true) := hp
          have h1 : (s[k].toNat : Int) < 32 ∨ 126 < (s[k].toNat : Int) := by simp [plainB] at hp; omega
          clear hp
          rcases h1 with h1 | h1
          all_goals
            go_wp2
            go_ret
            refine ⟨ret_bool ?_, rfl⟩
            symm
            rw [Bool.eq_false_iff]
            intro hq
            apply HP.out
            simp only [queryB, Bool.and_eq_true] at hq
            exact List.all_eq_true.1 hq.2 _ (mem_get s k hlt)
      · go_wp2
        go_ret
        refine ⟨ret_bool ?_, rfl⟩
        have e : s.data.toList.take k = s.data.toList := List.take_of_length_le (by simp; omega)
        have := HA.out
        rw [e] at this
        simp [queryB, this]; exact h24
  · go_enter Tryz.func142, Tryz.ntmps142
    go_wp2
    go_ret
    refine ⟨ret_bool ?_, rfl⟩
    simp [queryB]; omega

theorem Tryz.info5 : (Tryz.prog.info? 5).map (fun i => (i.zero, i.size, i.bytes)) = some (some (.int .u8 0), 1, 1) := by kernel_rfl

set_option maxHeartbeats 400000 in
set_option maxRecDepth 100000 in
theorem fold_any (s : ByteArray) (w : World) (hs : s.size ≤ 1099511627776) :
    Calls Tryz.prog 200 #[.string s] w fun e w' => e = .returned (.string ⟨(foldL s.data.toList).toArray⟩) ∧ Below w.heap.size w w' := by
  obtain ⟨i0, hi, hz0, hz1, hz2⟩ := info_parts Tryz.info5
  go_enter Tryz.func200, Tryz.ntmps200
  go_wp2
  go_loopw [3, 4] (fun v i wr => ∃ k : Nat, k ≤ s.size ∧ i = .int .i64 k ∧ wr.ownsRow w.heap.size 5 1 v k (byteVals (foldL (s.data.toList.take k))) ∧ Below w.heap.size w wr) (fun _ i _ => s.size - (intOf i).toNat)
  case atStart => exact ⟨0, Nat.zero_le _, rfl, World.ownsRow_nil _ _ _ _, Below.refl _ _⟩
  case round =>
    obtain ⟨k, hk, rfl, hown, hbel⟩ := hrel
    have HS := hbel.size
    have hl : (byteVals (foldL (s.data.toList.take k))).length = k := by rw [byteVals_length, foldL_length]; simp; omega
    by_cases hlt : k < s.size
    · have HE : Hid (byteVals (foldL (s.data.toList.take (k + 1))) = byteVals (foldL (s.data.toList.take k)) ++ [.int .u8 (lowB s[k]).toNat]) := by
        rw [take_snoc s k hlt, foldL_snoc, byteVals_snoc]; rfl
      by_cases hup : 65 ≤ s[k].toNat ∧ s[k].toNat ≤ 90
      · have h1 : 65 ≤ (s[k].toNat : Int) := by omega
        have h2 : (s[k].toNat : Int) ≤ 90 := by omega
        have HL : Hid (((lowB s[k]).toNat : Int) = (s[k].toNat : Int) + 32) := lowB_up _ hup
        clear hup
        go_wp2_with (first
          | (at_builtin; refine wpList_append_one _ rfl _ _ 60 rfl w.heap.size 5 i0 (.int .u8 0) 1 Tryz.underlying60 hi hz0 hz1 hz2 rfl _ _ _ rfl (hown.alloc _) ⟨wr.heap.size, 0, none⟩ _ rfl cell_new rfl ?c1 ?c2 ?c3 ?_))
        case c1 => omega
        case c2 => unfold maxLen; omega
        case c3 => first | omega | (simp; omega)
        intro v' w1 hown' hgrow _
        rw [← HL.out, ← HE.out] at hown'
        have hb' := (hbel.alloc HS _).grown hgrow (by simp; omega) (fun b hb => (hown.lt b hb).1)
        go_wp2
        go_roundw
        case rel => exact ⟨k + 1, by omega, by go_num, hown', hb'⟩
        case measure => simp [intOf]; omega
      · have HL : Hid (lowB s[k] = s[k]) := lowB_no _ hup
        have h12 : (s[k].toNat : Int) < 65 ∨ 90 < (s[k].toNat : Int) := by omega
        clear hup
        rcases h12 with h1 | h1
        all_goals
          go_wp2_with (first
            | (at_builtin; refine wpList_append_one _ rfl _ _ 60 rfl w.heap.size 5 i0 (.int .u8 0) 1 Tryz.underlying60 hi hz0 hz1 hz2 rfl _ _ _ rfl (hown.alloc _) ⟨wr.heap.size, 0, none⟩ _ rfl cell_new rfl ?c1 ?c2 ?c3 ?_))
          case c1 => omega
          case c2 => unfold maxLen; omega
          case c3 => first | omega | (simp; omega)
          intro v' w1 hown' hgrow _
          have HE' := HE.out
          rw [HL.out] at HE'
          rw [← HE'] at hown'
          have hb' := (hbel.alloc HS _).grown hgrow (by simp; omega) (fun b hb => (hown.lt b hb).1)
          clear HE'
          go_wp2
          go_roundw
          case rel => exact ⟨k + 1, by omega, by go_num, hown', hb'⟩
          case measure => simp [intOf]; omega
    · have ek : k = s.size := by omega
      subst ek
      have hconv := conv_bytes hown Tryz.underlying60 Tryz.underlying5 Tryz.underlying9
      go_wp2
      go_ret
      refine ⟨ret_str ?_, hbel⟩
      rw [List.take_of_length_le (by simp)]

end Go.Proofs.YtocbogeoffeolaaGreatDoor
