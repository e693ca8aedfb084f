/-
  WALKS: the document's own answer: starts, Words.
-/
import Derived.Test.YtocbogeoffeolaaGreatDoorW1
namespace Go.Proofs.YtocbogeoffeolaaGreatDoor
open Go.RowKit

set_option maxHeartbeats 400000 in
theorem starts_any (s : ByteArray) (k : Nat) (w : World) (hs : s.size ≤ 1099511627776) (hk : k < s.size) :
    Calls Tryz.prog 207 #[.string s, .int .i64 k] w fun e w' => e = .returned (.bool (startsL s.data.toList k)) ∧ w = w' := by
  have e1 := getD_get s k hk
  by_cases hl : letterB s[k] = true
  · by_cases h0 : k = 0
    · subst h0
      have HF : Hid (startsL s.data.toList 0 = true) := by unfold startsL; rw [e1, hl]; rfl
      clear e1
      go_enter Tryz.func207, Tryz.ntmps207
      go_wp2_with (go_at_call 199; refine (letter_any _ _).mono ?_; rintro e w' ⟨rfl, rfl⟩)
      go_ret
      exact ⟨ret_bool (by rw [HF.out]), rfl⟩
    · have hk1 : k - 1 < s.size := by omega
      have e2 := getD_get s (k - 1) hk1
      have hb : ((k : Int) == 0) = false := by simp; omega
      have HF : Hid (startsL s.data.toList k = !letterB s[k - 1]) := by show startsL s.data.toList k = _; unfold startsL; rw [e1, hl, e2]; simp [h0]
      clear e1 e2
      go_enter Tryz.func207, Tryz.ntmps207
      go_wp2_with fail
      refine (letter_any _ _).mono ?_
      rintro e w' ⟨rfl, rfl⟩
      go_wp2_with fail
      refine (letter_any _ _).mono ?_
      rintro e w' ⟨rfl, rfl⟩
      go_wp2
      go_ret
      exact ⟨ret_bool (by rw [HF.out]), rfl⟩
  · have hl' : letterB s[k] = false := by simpa using hl
    have HF : Hid (startsL s.data.toList k = false) := by unfold startsL; rw [e1, hl']; rfl
    clear e1
    go_enter Tryz.func207, Tryz.ntmps207
    go_wp2_with (go_at_call 199; refine (letter_any _ _).mono ?_; rintro e w' ⟨rfl, rfl⟩)
    go_ret
    exact ⟨ret_bool (by rw [HF.out]), rfl⟩

theorem Tryz.info9 : (Tryz.prog.info? 9).map (fun i => (i.zero, i.size, i.bytes)) = some (some (.string ⟨#[]⟩), 1, 16) := by kernel_rfl

set_option maxHeartbeats 1000000 in
set_option maxRecDepth 100000 in
theorem words_any (s : ByteArray) (w : World) (hs : s.size ≤ 1099511627776) :
    Calls Tryz.prog 155 #[.string s] w fun e w' => ∃ v, e = .returned v ∧
      w'.ownsRow w.heap.size 9 1 v (wordsL (foldL s.data.toList)).length (strVals (wordsL (foldL s.data.toList))) ∧ Below w.heap.size w w' := by
  obtain ⟨i0, hi, hz0, hz1, hz2⟩ := info_parts Tryz.info9
  go_enter Tryz.func155, Tryz.ntmps155
  go_wp2_with fail
  refine (fold_any s w hs).mono ?_
  rintro e w0 ⟨rfl, hb0⟩
  obtain ⟨f, hf⟩ : ∃ f : ByteArray, f = ⟨(foldL s.data.toList).toArray⟩ := ⟨_, rfl⟩
  have hfs : f.size ≤ 1099511627776 := by rw [hf]; show (foldL s.data.toList).length ≤ _; rw [foldL_length]; simpa using hs
  have HF : Hid (foldL s.data.toList = f.data.toList) := by show foldL s.data.toList = f.data.toList; rw [hf]
  rw [← hf]
  clear hf hs
  have HS0 := hb0.size
  go_wp2
  go_loopw [4, 5] (fun v i wr => ∃ k : Nat, k ≤ f.size ∧ i = .int .i64 k ∧ wr.ownsRow w.heap.size 9 1 v (wordsTo f.data.toList k).length (strVals (wordsTo f.data.toList k)) ∧ Below w.heap.size w wr) (fun _ i _ => f.size - (intOf i).toNat)
  case atStart => exact ⟨0, Nat.zero_le _, rfl, World.ownsRow_nil _ _ _ _, hb0⟩
  case round =>
    obtain ⟨k, hk, rfl, hown, hbel⟩ := hrel
    have HS := hbel.size
    have hwl := wordsTo_le f.data.toList k
    by_cases hlt : k < f.size
    · by_cases hst : startsL f.data.toList k = true
      · have HE : Hid (wordsTo f.data.toList (k + 1) = wordsTo f.data.toList k ++ [wordAt f.data.toList k]) := wordsTo_succ_yes _ _ hst
        go_wp2_with fail
        refine (starts_any f k _ hfs hlt).mono ?_
        rintro e w' ⟨rfl, rfl⟩
        rw [hst]
        clear hst
        go_wp2_with fail
        go_loop [7] (fun i => ∃ t : Nat, i = .int .i64 t ∧ t ≤ f.size ∧ runTo f.data.toList k t) (fun i => f.size - (intOf i).toNat)
        case atStart => exact ⟨k, rfl, hk, runTo_start _ _ (by simpa using hk)⟩
        case round =>
          obtain ⟨t, rfl, ht, hrun⟩ := hrel
          have HR : Hid (runTo f.data.toList k t) := hrun
          clear hrun
          by_cases htl : t < f.size
          · have hc : ((97 ≤ (f[t].toNat : Int) ∧ (f[t].toNat : Int) ≤ 122) ∨ ((f[t].toNat : Int) < 97 ∧ 48 ≤ (f[t].toNat : Int) ∧ (f[t].toNat : Int) ≤ 57)) ∨ ((f[t].toNat : Int) < 48 ∨ 122 < (f[t].toNat : Int) ∨ ((f[t].toNat : Int) < 97 ∧ 57 < (f[t].toNat : Int))) := by omega
            rcases hc with hc | hc
            · have HL : Hid (letterB (f.data.toList.getD t 0) = true) := by show _ = _; rw [getD_get f t htl, letterB, decide_eq_true_iff]; omega
              rcases hc with ⟨h1, h2⟩ | ⟨h1, h2, h3⟩
              all_goals
                go_wp2
                go_round
                case rel => exact ⟨t + 1, by go_num, by omega, runTo_more _ _ _ HR.out (by simpa using htl) HL.out⟩
                case measure => simp [intOf]; omega
            · have HX : Hid (f.extract k t = ⟨(wordAt f.data.toList k).toArray⟩) := extract_word f k t HR.out (Or.inr (by rw [getD_get f t htl, letterB, decide_eq_false_iff_not]; omega))
              have hkt : k ≤ t := HR.out.1
              rcases hc with h1 | h1 | ⟨h1, h2⟩
              all_goals
                go_wp2_with (first
                  | (at_builtin; refine wpList_append_one _ rfl _ _ 31 rfl w.heap.size 9 i0 (.string ⟨#[]⟩) 16 Tryz.underlying31 hi hz0 hz1 hz2 rfl _ _ _ rfl (hown.alloc _) ⟨wr.heap.size, 0, none⟩ _ rfl cell_new rfl ?c1 ?c2 ?c3 ?_))
                case c1 => omega
                case c2 => unfold maxLen; omega
                case c3 => first | omega | (simp; omega)
                intro v' w1 hown' hgrow _
                rw [HX.out, ← strVals_snoc, ← HE.out] at hown'
                have hb' := (hbel.alloc HS _).grown hgrow (by simp; omega) (fun b hb => (hown.lt b hb).1)
                have HLn : Hid ((wordsTo f.data.toList k).length + 1 = (wordsTo f.data.toList (k + 1)).length) := by show _ = _; rw [HE.out]; simp
                rw [HLn.out] at hown'
                go_wp2
                go_roundw
                case rel => exact ⟨k + 1, by omega, by go_num, hown', hb'⟩
                case measure => simp [intOf]; omega
          · have et : t = f.size := by omega
            subst et
            have HX : Hid (f.extract k f.size = ⟨(wordAt f.data.toList k).toArray⟩) := extract_word f k f.size HR.out (Or.inl rfl)
            go_wp2_with (first
              | (at_builtin; refine wpList_append_one _ rfl _ _ 31 rfl w.heap.size 9 i0 (.string ⟨#[]⟩) 16 Tryz.underlying31 hi hz0 hz1 hz2 rfl _ _ _ rfl (hown.alloc _) ⟨wr.heap.size, 0, none⟩ _ rfl cell_new rfl ?c1 ?c2 ?c3 ?_))
            case c1 => omega
            case c2 => unfold maxLen; omega
            case c3 => first | omega | (simp; omega)
            intro v' w1 hown' hgrow _
            rw [HX.out, ← strVals_snoc, ← HE.out] at hown'
            have hb' := (hbel.alloc HS _).grown hgrow (by simp; omega) (fun b hb => (hown.lt b hb).1)
            have HLn : Hid ((wordsTo f.data.toList k).length + 1 = (wordsTo f.data.toList (k + 1)).length) := by show _ = _; rw [HE.out]; simp
            rw [HLn.out] at hown'
            go_wp2
            go_roundw
            case rel => exact ⟨k + 1, by omega, by go_num, hown', hb'⟩
            case measure => simp [intOf]; omega
      · have hst' : startsL f.data.toList k = false := by simpa using hst
        have HE : Hid (wordsTo f.data.toList (k + 1) = wordsTo f.data.toList k) := wordsTo_succ_no _ _ hst'
        clear hst
        go_wp2_with fail
        refine (starts_any f k _ hfs hlt).mono ?_
        rintro e w' ⟨rfl, rfl⟩
        rw [hst']
        clear hst'
        go_wp2
        go_roundw
        case rel => exact ⟨k + 1, by omega, by go_num, by rw [HE.out]; exact hown, hbel⟩
        case measure => simp [intOf]; omega
    · have ek : k = f.size := by omega
      subst ek
      go_wp2
      go_ret
      refine ⟨_, rfl, ?_, hbel⟩
      rw [HF.out]
      have e : wordsL f.data.toList = wordsTo f.data.toList f.size := by unfold wordsL; simp
      rw [e]
      exact hown

end Go.Proofs.YtocbogeoffeolaaGreatDoor
