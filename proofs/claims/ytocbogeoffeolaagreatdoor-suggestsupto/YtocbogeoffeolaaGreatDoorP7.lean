/-
  WALKS: the program's own: New, Observe.
-/
import Derived.Test.YtocbogeoffeolaaGreatDoorP6
import Derived.Test.YtocbogeoffeolaaGreatDoorLaw
namespace Go.Proofs.YtocbogeoffeolaaGreatDoor
open Go.RowKit Go.Maps

theorem words_ok (l : List UInt8) : ∀ x ∈ wordsL l, x ≠ [] ∧ x.length ≤ l.length := by
  intro x hx
  unfold wordsL wordsTo at hx
  obtain ⟨i, hi, rfl⟩ := List.mem_map.1 hx
  obtain ⟨h1, h2⟩ := List.mem_filter.1 hi
  have hil := List.mem_range.1 h1
  unfold startsL at h2
  simp only [Bool.and_eq_true] at h2
  unfold wordAt
  refine ⟨?_, ?_⟩
  · rw [List.drop_eq_getElem_cons hil, List.takeWhile_cons]
    have : letterB l[i] = true := by
      have := h2.1
      rw [List.getD_eq_getElem?_getD, List.getElem?_eq_getElem hil] at this
      exact this
    rw [this]
    simp
  · have := (List.takeWhile_sublist (p := letterB) (l := l.drop i)).length_le
    simp at this
    omega
theorem query_words (s : ByteArray) (hq : queryB s.data.toList = true) : (∀ x ∈ wordsL (foldL s.data.toList), x ≠ [] ∧ x.length ≤ 24) ∧ (wordsL (foldL s.data.toList)).length ≤ 24 := by
  have h24 : s.data.toList.length ≤ 24 := by simp only [queryB, Bool.and_eq_true, decide_eq_true_eq] at hq; exact hq.1
  constructor
  · intro x hx
    have := words_ok _ x hx
    rw [foldL_length] at this
    exact ⟨this.1, by omega⟩
  · have := wordsTo_le (foldL s.data.toList) (foldL s.data.toList).length
    rw [foldL_length] at this
    unfold wordsL
    rw [foldL_length]
    omega

/-- The program's engine. -/
def PE (w : World) (F : Nat → Prop) (b : Nat) (ts : List (List Wd)) : Prop := (∀ k, F k → k < w.heap.size) ∧ ∃ vB vS B n vK kn, PW w F b vB vS ts B n vK kn

theorem PW.stay {w w' : World} {F : Nat → Prop} {b : Nat} {vB vS : Value} {ts : List (List Wd)} {B n : Nat} {vK : Value} {kn : List Wd} (h : PW w F b vB vS ts B n vK kn) (hb : ∀ k, F k → w'.heap[k]? = w.heap[k]?) : PW w' F b vB vS ts B n vK kn where
  blk := by rw [hb b h.fb]; exact h.blk
  fb := h.fb
  fB := h.fB
  cnt := h.cnt.stay (hb B h.fB)
  room := h.room
  row := owns_stay h.row (fun k hk => hb k (h.frow k hk))
  frow := h.frow
  perm := h.perm
  ok := h.ok
  few := h.few

set_option maxHeartbeats 400000 in
set_option maxRecDepth 100000 in
theorem none_any (w : World) : Calls Tryz.prog 64 #[] w fun e w' => ∃ B : Nat, e = .returned (.agg #[.map (some B), .slice none 0 0]) ∧ w.heap.size ≤ B ∧ CntMap w' B 0 (fun _ => 0) ∧ Below w.heap.size w w' := by
  have hmm := @run_makeMap Tryz.prog
  go_enter Tryz.func64, Tryz.ntmps64
  go_wp2
  refine bodyPost_ret (v := .agg #[.map (some (w.heap.size + 1)), .slice none 0 0]) (by simp [results, Tryz.results64, go_sem]) rfl ⟨_, rfl, by omega, ?_, ((Below.refl _ _).alloc (Nat.le_refl _) _).alloc (by simp) _⟩
  have h := CntMap.made (w.alloc (.cells #[.map (some (w.heap.size + 1)), .slice none 0 0] 88))
  have e : (w.alloc (.cells #[.map (some (w.heap.size + 1)), .slice none 0 0] 88)).heap.size = w.heap.size + 1 := by simp
  rw [e] at h
  exact h

set_option maxHeartbeats 400000 in
set_option maxRecDepth 100000 in
theorem new_any (w : World) : Calls Tryz.prog 31 #[] w fun e w' => ∃ (b : Nat) (F : Nat → Prop), e = .returned (.pointer (some ⟨b, 0, none⟩)) ∧ PE w' F b [] ∧ (∀ k, F k → w.heap.size ≤ k) ∧ Below w.heap.size w w' := by
  have hmm := @run_makeMap Tryz.prog
  go_enter Tryz.func31, Tryz.ntmps31
  go_wp2_with fail
  refine (none_any _).mono ?_
  rintro e w1 ⟨B, rfl, hBl, hC, hb1⟩
  go_wp2
  go_ret
  have hz0 : (w.alloc (Obj.map #[] 0)).heap.size = w.heap.size + 1 := by simp
  rw [hz0] at hb1 hBl
  have hz1 := hb1.size
  rw [hz0] at hz1
  have hb : Below w.heap.size w w1 := ((Below.refl _ _).alloc (Nat.le_refl _) _).trans (hb1.mono (by omega))
  have hBz := hC.lt
  refine ⟨w1.heap.size, fun k => k = w1.heap.size ∨ k = B, rfl, ⟨?_, .map (some w.heap.size), .slice none 0 0, B, 0, .slice none 0 0, [], ?_⟩, ?_, hb.alloc (by omega) _⟩
  · rintro k (rfl | rfl)
    · simp
    · simp; omega
  · refine ⟨heap_new _ _, Or.inl rfl, Or.inr rfl, ?_, by simp [bulkT], World.ownsRow_nil _ _ _ _, fun k hk => by simp [Value.ownBlock] at hk, by simp [knownL], fun t ht => by simp at ht, by simp⟩
    refine (hC.stay (Below.heap_alloc _ _ _ hBz)).mono (Nat.le_refl _) (fun ws _ => by rw [cntW_nil])
  · rintro k (rfl | rfl)
    · omega
    · omega

set_option maxHeartbeats 1000000 in
set_option maxRecDepth 100000 in
theorem observe_any (w : World) (F : Nat → Prop) (b : Nat) (ts : List (List Wd)) (s : ByteArray) (hP : PE w F b ts) (hB : bulkT ts ≤ 16777216) (hs : s.size ≤ maxLen) :
    Calls Tryz.prog 34 #[.pointer (some ⟨b, 0, none⟩), .string s] w fun e w' => e = .returned (.int .i64 (obsL ts s.data.toList).1) ∧
      ∃ F' : Nat → Prop, PE w' F' b (obsL ts s.data.toList).2 ∧ (∀ k, F' k → F k ∨ w.heap.size ≤ k) ∧ FrameF F w w' := by
  obtain ⟨hF, vB, vS, B, n, vK, kn, hW⟩ := hP
  by_cases h : queryB s.data.toList = true ∧ s.data.toList ≠ []
  · have HO : Hid (obsL ts s.data.toList = if 60 < (knownL (ts ++ [wordsL (foldL s.data.toList)])).length then (4, ts) else (0, ts ++ [wordsL (foldL s.data.toList)])) := by
      show obsL ts s.data.toList = _
      unfold obsL
      rw [if_pos h]
    have hT := isText_any s w hs
    rw [decide_eq_true h] at hT
    obtain ⟨hq1, hq2⟩ := query_words s h.1
    have hwo := wordsOf_any s w.drew h.1
    clear h hs
    generalize wordsL (foldL s.data.toList) = t at *
    go_enter Tryz.func34, Tryz.ntmps34
    go_wp2_with fail
    refine hT.mono ?_
    rintro e w' ⟨rfl, rfl⟩
    clear hT
    by_cases h60 : 60 < (knownL (ts ++ [t])).length
    · have HO2 : Hid (obsL ts s.data.toList = (4, ts)) := by show _ = _; rw [HO.out, if_pos h60]
      have hwo' : Calls Tryz.prog 67 #[.string s] w.drew fun e w1 => ∃ a c, e = .returned (.slice a t.length c) ∧ Below w.heap.size w w1 ∧
          Calls Tryz.prog 66 #[.pointer (some ⟨b, 2, none⟩), .slice a t.length c] w1 fun e w2 => e = .returned (.bool false) ∧ Below w.heap.size w w2 := by
        refine hwo.mono ?_
        rintro e w1 ⟨v, rfl, hown', hb1'⟩
        have hown : w1.ownsRow w.heap.size 9 1 v t.length (strVals t) := hown'
        have hb1 : Below w.heap.size w w1 := ⟨hb1'.os, hb1'.tape, hb1'.output, hb1'.size, hb1'.block⟩
        clear hown' hb1'
        obtain ⟨a, c, rfl, _⟩ := owns_slice hown
        refine ⟨a, c, rfl, hb1, ?_⟩
        refine (add_any F b vB vS ts B n vK kn t w.heap.size _ w1 (fun k hk => Nat.lt_of_lt_of_le (hF k hk) hb1.size) (hW.stay (fun k hk => hb1.block k (hF k hk))) hown (fun k hk hk2 => by have := (hown.lt k hk).1; have := hF k hk2; omega) hq1 hq2 hB).mono ?_
        rintro e w2 (⟨_, rfl, hb2⟩ | ⟨hn, _⟩)
        · exact ⟨rfl, hb1.trans (hb2.mono hb1.size)⟩
        · exact absurd h60 hn
      clear hwo h60 hq1 hq2
      go_wp2_with fail
      go_region_law (first
        | (go_simp
           go_at_call 67
           refine hwo'.mono ?_
           rintro e w1 ⟨a, c, rfl, hb1, hadd⟩)
        | (go_simp
           go_at_call 66
           refine hadd.mono ?_
           rintro e w2 ⟨rfl, hb2⟩))
      all_goals
        go_wp2
        go_ret
        refine ⟨ret_int (by rw [HO2.out]; rfl), F, ?_, fun k hk => Or.inl hk, FrameF.of_below hb2⟩
        rw [HO2.out]
        exact ⟨fun k hk => Nat.lt_of_lt_of_le (hF k hk) hb2.size, vB, vS, B, n, vK, kn, hW.stay (fun k hk => hb2.block k (hF k hk))⟩
    · have HO2 : Hid (obsL ts s.data.toList = (0, ts ++ [t])) := by show _ = _; rw [HO.out, if_neg h60]
      have hwo' : Calls Tryz.prog 67 #[.string s] w.drew fun e w1 => ∃ a c, e = .returned (.slice a t.length c) ∧ Below w.heap.size w w1 ∧
          Calls Tryz.prog 66 #[.pointer (some ⟨b, 2, none⟩), .slice a t.length c] w1 fun e w2 => e = .returned (.bool true) ∧ (∃ F' n' vK' kn', (∀ k, F' k → k < w2.heap.size) ∧ (∀ k, F' k → F k ∨ w.heap.size ≤ k) ∧ PW w2 F' b vB vS (ts ++ [t]) B n' vK' kn') ∧ FrameF F w w2 := by
        refine hwo.mono ?_
        rintro e w1 ⟨v, rfl, hown', hb1'⟩
        have hown : w1.ownsRow w.heap.size 9 1 v t.length (strVals t) := hown'
        have hb1 : Below w.heap.size w w1 := ⟨hb1'.os, hb1'.tape, hb1'.output, hb1'.size, hb1'.block⟩
        clear hown' hb1'
        obtain ⟨a, c, rfl, _⟩ := owns_slice hown
        refine ⟨a, c, rfl, hb1, ?_⟩
        have hz1 : w.heap.size ≤ w1.heap.size := hb1.size
        refine (add_any F b vB vS ts B n vK kn t w.heap.size _ w1 (fun k hk => Nat.lt_of_lt_of_le (hF k hk) hz1) (hW.stay (fun k hk => hb1.block k (hF k hk))) hown (fun k hk hk2 => by have := (hown.lt k hk).1; have := hF k hk2; omega) hq1 hq2 hB).mono ?_
        rintro e w2 (⟨hy, _⟩ | ⟨_, rfl, ⟨n', vK', kn', hW'⟩, hfr⟩)
        · exact absurd hy h60
        · have hz2 := hfr.size
          refine ⟨rfl, ⟨Grow F w1 w2, n', vK', kn', ?_, ?_, hW'⟩, ?_⟩
          · rintro k (hk | hk)
            · have := hF k hk; omega
            · exact hk.2
          · rintro k (hk | hk)
            · exact Or.inl hk
            · exact Or.inr (by omega)
          · exact (FrameF.of_below (F := F) hb1).trans hfr (fun _ _ h => h)
      clear hwo h60 hq1 hq2
      go_wp2_with fail
      go_region_law (first
        | (go_simp
           go_at_call 67
           refine hwo'.mono ?_
           rintro e w1 ⟨a, c, rfl, hb1, hadd⟩)
        | (go_simp
           go_at_call 66
           refine hadd.mono ?_
           rintro e w2 ⟨rfl, ⟨F', n', vK', kn', hF1, hF2, hW'⟩, hfr⟩))
      all_goals
        go_wp2
        go_ret
        refine ⟨ret_int (by rw [HO2.out]; rfl), F', ?_, hF2, hfr⟩
        rw [HO2.out]
        exact ⟨hF1, vB, vS, B, n', vK', kn', hW'⟩
  · have HO : Hid (obsL ts s.data.toList = (2, ts)) := by show obsL ts s.data.toList = _; unfold obsL; rw [if_neg h]
    have hT := isText_any s w hs
    rw [decide_eq_false h] at hT
    go_enter Tryz.func34, Tryz.ntmps34
    go_wp2_with fail
    refine hT.mono ?_
    rintro e w' ⟨rfl, rfl⟩
    go_wp2
    go_ret
    refine ⟨ret_int (by rw [HO.out]; rfl), F, ?_, fun k hk => Or.inl hk, FrameF.refl _ _⟩
    rw [HO.out]
    exact ⟨hF, vB, vS, B, n, vK, kn, hW⟩

end Go.Proofs.YtocbogeoffeolaaGreatDoor
