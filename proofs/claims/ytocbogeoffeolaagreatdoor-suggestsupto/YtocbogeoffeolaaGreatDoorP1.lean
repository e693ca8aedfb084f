/-
  WALKS: the program's own: which strings are texts, and their folded form.
-/
import Derived.Test.YtocbogeoffeolaaGreatDoorW2
import Derived.Lib.ConvBytes
import Derived.Laws.IdiomStrings
namespace Go.Proofs.YtocbogeoffeolaaGreatDoor
open Go.RowKit

set_option maxHeartbeats 400000 in
theorem wordByte_any (c : UInt8) (w : World) :
    Calls Tryz.prog 98 #[.int .u8 c.toNat] w fun e w' => e = .returned (.bool (letterB c)) ∧ w = w' := by
  go_enter Tryz.func98, Tryz.ntmps98
  go_wp2
  all_goals
    go_ret
    refine ⟨ret_bool ?_, rfl⟩
    unfold letterB
    rw [Bool.eq_iff_iff]
    simp only [decide_eq_true_eq, Bool.or_eq_true, true_iff, false_iff, Bool.false_eq_true]
    omega

set_option maxHeartbeats 400000 in
theorem isTyped_any (s : ByteArray) (w : World) (hs : s.size ≤ maxLen) :
    Calls Tryz.prog 48 #[.string s] w fun e w' => e = .returned (.bool (queryB s.data.toList)) ∧ w = w' := by
  unfold maxLen at hs
  by_cases h24 : s.size ≤ 24
  · have hd : decide (24 < (s.size : Int)) = false := by simp; omega
    go_enter Tryz.func48, Tryz.ntmps48
    go_wp2
    go_loop [9] (fun i => ∃ k : Nat, k ≤ s.size ∧ i = .int .i64 k ∧ (s.data.toList.take k).all plainB = true) (fun i => s.size - (intOf i).toNat)
    case atStart => exact ⟨0, Nat.zero_le _, rfl, rfl⟩
    case round =>
      obtain ⟨k, hk, rfl, hall⟩ := hrel
      have HA : Hid ((s.data.toList.take k).all plainB = true) := hall
      clear hall
      by_cases hlt : k < s.size
      · have hts := take_snoc s k hlt
        have HS : Hid (s.data.toList.take (k + 1) = s.data.toList.take k ++ [s[k]]) := hts
        clear hts
        by_cases hp : plainB s[k] = true
        · have HP : Hid (plainB s[k] = true) := hp
          have h1 : 32 ≤ (s[k].toNat : Int) := by simp [plainB] at hp; omega
          have h2 : (s[k].toNat : Int) ≤ 126 := by simp [plainB] at hp; omega
          clear hp
          go_wp2
          go_round
          case rel => exact ⟨k + 1, by omega, by go_num, by rw [HS.out, List.all_append, HA.out]; simp [HP.out]⟩
          case measure => simp [intOf]; omega
        · have HP : Hid (¬ plainB s[k] = true) := hp
          have h1 : (s[k].toNat : Int) < 32 ∨ 126 < (s[k].toNat : Int) := by simp [plainB] at hp; omega
          clear hp
          rcases h1 with h1 | h1
          all_goals
            go_wp2
            go_ret
            refine ⟨ret_bool ?_, rfl⟩
            symm
            rw [Bool.eq_false_iff]
            intro hq
            apply HP.out
            simp only [queryB, Bool.and_eq_true] at hq
            exact List.all_eq_true.1 hq.2 _ (mem_get s k hlt)
      · go_wp2
        go_ret
        refine ⟨ret_bool ?_, rfl⟩
        have e : s.data.toList.take k = s.data.toList := List.take_of_length_le (by simp; omega)
        have := HA.out
        rw [e] at this
        simp [queryB, this]; exact h24
  · go_enter Tryz.func48, Tryz.ntmps48
    go_wp2
    go_ret
    refine ⟨ret_bool ?_, rfl⟩
    simp [queryB]; omega

set_option maxHeartbeats 400000 in
theorem isText_any (s : ByteArray) (w : World) (hs : s.size ≤ maxLen) :
    Calls Tryz.prog 65 #[.string s] w fun e w' => e = .returned (.bool (decide (queryB s.data.toList = true ∧ s.data.toList ≠ []))) ∧ w = w' := by
  by_cases h0 : s.data.toList = []
  · have hs0 : s = ⟨#[]⟩ := by
      apply ByteArray.ext
      apply Array.toList_inj.1
      exact h0
    subst hs0
    clear h0
    go_enter Tryz.func65, Tryz.ntmps65
    go_wp2
    go_ret
    exact ⟨ret_bool (by simp), rfl⟩
  · have hnil : s.toList.isEmpty = false := by
      rw [ByteArray.toList_eq]
      cases h : s.data.toList with
      | nil => exact absurd h h0
      | cons a l => rfl
    have HQ : Hid (decide (queryB s.data.toList = true ∧ s.data.toList ≠ []) = queryB s.data.toList) := by
      show decide (queryB s.data.toList = true ∧ s.data.toList ≠ []) = queryB s.data.toList
      rw [Bool.eq_iff_iff, decide_eq_true_eq]
      exact ⟨fun h => h.1, fun h => ⟨h, h0⟩⟩
    clear h0
    go_enter Tryz.func65, Tryz.ntmps65
    go_wp2_with fail
    refine (isTyped_any _ _ hs).mono ?_
    rintro e w' ⟨rfl, rfl⟩
    go_wp2
    go_ret
    exact ⟨ret_bool (by rw [HQ.out]), rfl⟩

/-- A block that reads as these bytes, each of which may be written. -/
def BytesAt (w : World) (g : Nat) (l : List UInt8) : Prop := ∀ j (h : j < l.length), w.cell? ⟨g, j, none⟩ = some (.int .u8 l[j].toNat) ∧ w.frozen? ⟨g, j, none⟩ = false

theorem BytesAt.set {w : World} {g : Nat} {l : List UInt8} (h : BytesAt w g l) (k : Nat) (c : UInt8) (v : Value) (hv : v = .int .u8 c.toNat) : BytesAt (w.setCell ⟨g, k, none⟩ v) g (l.set k c) := by
  subst hv
  intro j hj
  have hj' : j < l.length := by simpa using hj
  obtain ⟨h1, h2⟩ := h j hj'
  refine ⟨?_, by rw [World.frozen?_setCell]; exact h2⟩
  by_cases e : k = j
  · subst e
    rw [World.cell?_setCell_same _ _ _ h1]
    simp
  · rw [World.cell?_setCell_other _ _ _ _ (by intro hh; simp at hh), h1]
    simp [e]

/-- Folded as far as that. -/
def foldTo (l : List UInt8) (k : Nat) : List UInt8 := foldL (l.take k) ++ l.drop k
theorem foldTo_len (l : List UInt8) (k : Nat) : (foldTo l k).length = l.length := by simp [foldTo, foldL]; omega
theorem foldTo_get (l : List UInt8) (k : Nat) (h : k < l.length) : (foldTo l k)[k]'(by rw [foldTo_len]; exact h) = l[k] := by
  unfold foldTo
  rw [List.getElem_append_right (by simp [foldL]; omega)]
  simp [foldL, Nat.min_eq_left (Nat.le_of_lt h)]
theorem foldTo_succ (l : List UInt8) (k : Nat) (h : k < l.length) : foldTo l (k + 1) = (foldTo l k).set k (lowB l[k]) := by
  unfold foldTo
  rw [List.take_succ_eq_append_getElem h, foldL_snoc]
  have hl : (foldL (l.take k)).length = k := by rw [foldL_length]; simp; omega
  rw [List.set_append_right _ _ (by omega), hl, Nat.sub_self, List.append_assoc]
  congr 1
  rw [List.drop_eq_getElem_cons h]
  rfl
theorem foldTo_all (l : List UInt8) : foldTo l l.length = foldL l := by simp [foldTo]
theorem foldTo_zero (l : List UInt8) : foldTo l 0 = l := by simp [foldTo, foldL]

set_option maxHeartbeats 1000000 in
set_option maxRecDepth 100000 in
theorem pfold_any (s : ByteArray) (w : World) (hs : s.size ≤ 1099511627776) :
    Calls Tryz.prog 50 #[.string s] w fun e w' => e = .returned (.string ⟨(foldL s.data.toList).toArray⟩) ∧ Below w.heap.size w w' := by
  have hcv := Lib.run_convert_string_bytes (P := Tryz.prog) w 9 60 5 s Tryz.underlying9 Tryz.underlying60 Tryz.underlying5
  go_enter Tryz.func50, Tryz.ntmps50
  obtain ⟨W0, hW0⟩ : ∃ W0, Lib.bytesWorld w 5 s = W0 := ⟨_, rfl⟩
  have hb0 : Below w.heap.size w W0 := by
    subst hW0
    exact ⟨rfl, rfl, rfl, by rw [Lib.bytesWorld_size]; omega, fun k hk => Lib.bytesWorld_at_old w _ s k hk⟩
  have hz0 : w.heap.size < W0.heap.size := by subst hW0; rw [Lib.bytesWorld_size]; omega
  have hA0 : BytesAt W0 w.heap.size (foldTo s.data.toList 0) := by
    rw [foldTo_zero]
    intro j hj
    have hj' : j < s.size := by simpa using hj
    subst hW0
    refine ⟨?_, ?_⟩
    · rw [Lib.bytesWorld_cell w _ s j hj', List.getD_eq_getElem?_getD, List.getElem?_eq_getElem hj]; rfl
    · simp [World.frozen?, Lib.bytesWorld_at_new]
      intro h
      simp [Lib.bytesCells] at h
      omega
  rw [hW0] at hcv
  clear hW0
  go_wp2
  go_loopw [10] (fun i wr => ∃ k : Nat, k ≤ s.size ∧ i = .int .i64 k ∧ BytesAt wr w.heap.size (foldTo s.data.toList k) ∧ Below w.heap.size w wr ∧ w.heap.size < wr.heap.size) (fun i _ => s.size - (intOf i).toNat)
  case atStart => exact ⟨0, Nat.zero_le _, rfl, hA0, hb0, hz0⟩
  case round =>
    obtain ⟨k, hk, rfl, hA, hb, hz⟩ := hrel
    by_cases hlt : k < s.size
    · have hl : k < s.data.toList.length := by simpa using hlt
      obtain ⟨hc, hf⟩ := hA k (by rw [foldTo_len]; exact hl)
      rw [foldTo_get _ _ hl] at hc
      have HE : Hid (foldTo s.data.toList (k + 1) = (foldTo s.data.toList k).set k (lowB s.data.toList[k])) := foldTo_succ _ _ hl
      have HG : Hid (s.data.toList.length = s.size) := by show _ = _; simp
      have HGet : Hid ((foldTo s.data.toList k)[k]'(by rw [foldTo_len]; exact hl) = s.data.toList[k]) := foldTo_get _ _ hl
      have HA : Hid (BytesAt wr w.heap.size (foldTo s.data.toList k)) := hA
      generalize s.data.toList[k] = c at *
      clear hA
      by_cases hup : 65 ≤ c.toNat ∧ c.toNat ≤ 90
      · have h1 : 65 ≤ (c.toNat : Int) := by omega
        have h2 : (c.toNat : Int) ≤ 90 := by omega
        have HL : Hid (((lowB c).toNat : Int) = (c.toNat : Int) + 32) := lowB_up _ hup
        clear hup
        go_wp2
        go_roundw
        case rel => exact ⟨k + 1, by omega, by go_num, by rw [HE.out]; exact HA.out.set k _ _ (by rw [HL.out]; go_num), Below.setCell hb (Nat.le_refl _) _, by simpa [World.setCell] using hz⟩
        case measure => simp [intOf]; omega
      · have HL : Hid (lowB c = c) := lowB_no _ hup
        have h12 : (c.toNat : Int) < 65 ∨ 90 < (c.toNat : Int) := by omega
        have HS : Hid (foldTo s.data.toList (k + 1) = foldTo s.data.toList k) := by
          show _ = _
          rw [HE.out, HL.out, ← HGet.out]
          simp
        clear hup
        rcases h12 with h1 | h1
        all_goals
          go_wp2
          go_roundw
          case rel => exact ⟨k + 1, by omega, by go_num, by rw [HS.out]; exact HA.out, hb, hz⟩
          case measure => simp [intOf]; omega
    · have ek : k = s.size := by omega
      subst ek
      have hl : (foldL s.data.toList).length = s.size := by rw [foldL_length]; simp
      have e1 : foldTo s.data.toList s.size = foldL s.data.toList := by
        have : s.size = s.data.toList.length := by simp
        rw [this, foldTo_all]
      rw [e1] at hA
      have hconv := run_convert_bytes_back (P := Tryz.prog) wr 60 9 5 ⟨w.heap.size, 0, none⟩ (grownCap w s.size 0 5) (foldL s.data.toList) Tryz.underlying60 Tryz.underlying5 Tryz.underlying9 (fun j hj => by
        have := (hA j hj).1
        have e2 : (⟨w.heap.size, 0, none⟩ : Addr).add j = ⟨w.heap.size, j, none⟩ := by
          unfold Addr.add
          split
          · rename_i h; rw [h]
          · simp
        rw [e2]; exact this)
      rw [hl] at hconv
      clear hl e1
      go_wp2
      go_ret
      exact ⟨rfl, hb⟩

end Go.Proofs.YtocbogeoffeolaaGreatDoor
