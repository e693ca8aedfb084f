/-
  WALKS: the document's own answer: Observe.
-/
import Derived.Test.YtocbogeoffeolaaGreatDoorHeap
import Derived.Deep.RegionLaw
namespace Go.Proofs.YtocbogeoffeolaaGreatDoor
open Go.RowKit

/-- What Observe does to the texts: its answer, and the texts behind it. -/
def obsL (ts : List (List Wd)) (s : List UInt8) : Nat × List (List Wd) :=
  if queryB s = true ∧ s ≠ [] then
    if 60 < (knownL (ts ++ [wordsL (foldL s)])).length then (4, ts) else (0, ts ++ [wordsL (foldL s)])
  else (2, ts)

set_option maxHeartbeats 400000 in
theorem refObserve_bad (b : Nat) (s : ByteArray) (w : World) (hs : s.size ≤ maxLen) (h : ¬ (queryB s.data.toList = true ∧ s.data.toList ≠ [])) :
    Calls Tryz.prog 114 #[.pointer (some ⟨b, 0, none⟩), .string s] w fun e w' => e = .returned (.int .i64 2) ∧ w = w' := by
  by_cases hq : queryB s.data.toList = true
  · have h0 : s.data.toList = [] := by
      by_cases h0 : s.data.toList = []
      · exact h0
      · exact absurd ⟨hq, h0⟩ h
    have hs0 : s = ⟨#[]⟩ := by
      apply ByteArray.ext
      apply Array.toList_inj.1
      exact h0
    subst hs0
    clear h h0
    go_enter Tryz.func114, Tryz.ntmps114
    go_wp2_with fail
    refine (isQuery_any _ _ hs).mono ?_
    rintro e w' ⟨rfl, rfl⟩
    rw [hq]
    go_wp2
    go_ret
    exact ⟨rfl, rfl⟩
  · have hq' : queryB s.data.toList = false := by simpa using hq
    clear h hq
    go_enter Tryz.func114, Tryz.ntmps114
    go_wp2_with fail
    refine (isQuery_any _ _ hs).mono ?_
    rintro e w' ⟨rfl, rfl⟩
    rw [hq']
    go_wp2
    go_ret
    exact ⟨rfl, rfl⟩

theorem one_slice {w : World} {base e n : Nat} {v : Value} {xs : List Value} (h : w.ownsRow base e 1 v n xs) : ∀ u ∈ [v], u.oneCell' = true := by
  obtain ⟨a, cap, rfl, _⟩ := owns_slice h
  intro u hu
  simp at hu
  subst hu
  rfl

theorem far_of {w w1 : World} {b : Nat} {vT : Value} {o : Obj} (hb : Below w.heap.size w w1) (hfr : w.frozen? ⟨b, 2, none⟩ = false) (hT : w.cell? ⟨b, 2, none⟩ = some vT) (hbz : b < w.heap.size) (hbT : vT.ownBlock ≠ some b)
    (w2 : World) (hg : (w1.alloc o).grownBy w2 vT.ownBlock) : w2.frozen? ⟨b, 2, none⟩ = false ∧ w2.cell? ⟨b, 2, none⟩ = some vT := by
  have hz := hb.size
  have h1 : w2.heap[b]? = w.heap[b]? := by
    rw [hg.block b (by simp; omega) (fun e => hbT e.symm), Below.heap_alloc _ _ _ (by omega), hb.block b hbz]
  exact ⟨by rw [World.frozen?_of_block (w := w) h1]; exact hfr, by rw [World.cell?_of_block (w := w) h1]; exact hT⟩

theorem obs_step {w w1 w2 : World} {F : Nat → Prop} {b N : Nat} {vB vS vT vT' v9 : Value} {vs : List Value} {ts : List (List Wd)} {ws : List Wd} {o : Obj} (hF : ∀ k, F k → k < w.heap.size)
    (hhb : w.heap[b]? = some (.cells #[vB, vS, vT] 120 (0, 0))) (hFb : F b) (hvl : vs.length = ts.length) (hO : w.ownsRow 0 31 1 vT ts.length vs) (hFT : ∀ k, vT.ownBlock = some k → F k)
    (hel : ∀ i (h : i < ts.length), ∃ u, vs[i]? = some u ∧ w.ownsRow 0 9 1 u ts[i].length (strVals ts[i]) ∧ (∀ k, u.ownBlock = some k → F k))
    (hb1 : Below w.drew.heap.size w.drew w1) (hl1 : w1.ownsRow w.drew.heap.size 9 1 v9 ws.length (strVals ws)) (hO2 : w2.ownsRow 0 31 1 vT' (ts.length + 1) (vs ++ [v9]))
    (hg2 : (w1.alloc o).grownBy w2 vT.ownBlock) (hblk : vT'.ownBlock = vT.ownBlock ∨ vT'.ownBlock = some N) (hN : N = w1.heap.size + 1) :
    RefT (w2.setCell ⟨b, 2, none⟩ vT') (Grow F w (w2.setCell ⟨b, 2, none⟩ vT')) b vB vS (ts ++ [ws]) ∧ FrameF F w (w2.setCell ⟨b, 2, none⟩ vT') := by
  have hz1 : w.heap.size ≤ w1.heap.size := hb1.size
  have hz2 : w1.heap.size + 1 ≤ w2.heap.size := by have := hg2.size; simpa using this
  have hsz : (w2.setCell ⟨b, 2, none⟩ vT').heap.size = w2.heap.size := by simp [World.setCell]
  have hbT : vT.ownBlock ≠ some b := blk_ne hhb hO (by decide)
  have hbz : b < w.heap.size := hF b hFb
  -- the blocks between
  have hold : ∀ k, k < w.heap.size → some k ≠ vT.ownBlock → w2.heap[k]? = w.heap[k]? := fun k hk hne => by
    rw [hg2.block k (by simp; omega) hne, Below.heap_alloc _ _ _ (by omega), hb1.block k hk]; rfl
  have hnew : ∀ k, w.heap.size ≤ k → k < w1.heap.size → w2.heap[k]? = w1.heap[k]? := fun k hk hk1 => by
    rw [hg2.block k (by simp; omega) (fun e => by have := hO.lt k e.symm; omega), Below.heap_alloc _ _ _ (by omega)]
  have hb2 : w2.heap[b]? = some (.cells #[vB, vS, vT] 120 (0, 0)) := by rw [hold b hbz (fun e => hbT e.symm)]; exact hhb
  have hfar : ∀ k, k ≠ b → (w2.setCell ⟨b, 2, none⟩ vT').heap[k]? = w2.heap[k]? := fun k hk => Below.heap_setCell _ _ _ _ hk
  refine ⟨⟨vT', ?_, Or.inl hFb, vs ++ [v9], by simp [hvl], ?_, ?_, ?_⟩, ?_⟩
  · rw [heap_set hb2]; rfl
  · have : (ts ++ [ws]).length = ts.length + 1 := by simp
    rw [this]
    refine owns_stay hO2 (fun k hk => hfar k ?_)
    intro e
    subst e
    exact blk_ne hb2 hO2 (by decide) hk
  · intro k hk
    rcases hblk with h | h
    · exact Or.inl (hFT k (by rw [← h]; exact hk))
    · rw [h] at hk
      simp only [Option.some.injEq] at hk
      have := hO2.lt k (by rw [h, hk])
      exact Or.inr ⟨by omega, by rw [hsz]; omega⟩
  · intro i hi
    by_cases hlt : i < ts.length
    · obtain ⟨u, hu, ho, hf⟩ := hel i hlt
      refine ⟨u, ?_, ?_, fun k hk => Or.inl (hf k hk)⟩
      · rw [List.getElem?_append_left (by omega)]; exact hu
      · rw [List.getElem_append_left hlt]
        refine owns_stay ho (fun k hk => ?_)
        have hne : k ≠ b := fun e => by subst e; exact blk_ne hhb ho (by decide) hk
        rw [hfar k hne]
        refine hold k (by have := ho.lt k hk; omega) (fun e => ?_)
        rcases owns_ne ho hO (by decide) with h | h
        · rw [h] at hk; simp at hk
        · exact h (by rw [hk, e])
    · have hi' : i = ts.length := by simp at hi; omega
      subst hi'
      refine ⟨v9, ?_, ?_, fun k hk => ?_⟩
      · rw [List.getElem?_append_right (by omega), hvl]; simp
      · have e : (ts ++ [ws])[ts.length] = ws := by simp
        rw [e]
        refine owns_stay (owns_mono hl1 (Nat.zero_le _)) (fun k hk => ?_)
        have hk1 := hl1.lt k hk
        have hk2 : w.heap.size ≤ k := hk1.1
        rw [hfar k (by omega), hnew k hk2 hk1.2]
      · have hk1 := hl1.lt k hk
        have hk2 : w.heap.size ≤ k := hk1.1
        exact Or.inr ⟨hk2, by rw [hsz]; omega⟩
  · refine ⟨hg2.os.trans hb1.os, hg2.tape.trans hb1.tape, hg2.output.trans hb1.output, by rw [hsz]; omega, fun k hk hn => ?_⟩
    rw [hfar k (fun e => by subst e; exact hn hFb)]
    exact hold k hk (fun e => hn (hFT k e.symm))

theorem blk_len {a : Option Addr} {n m c k : Nat} (h : (Value.slice a n c).ownBlock = some k) : (Value.slice a m c).ownBlock = some k := by
  cases a with
  | none => simp [Value.ownBlock] at h
  | some ad => exact h

/-- The last text is taken back. -/
theorem obs_back {w wc w3 : World} {F : Nat → Prop} {b c2 : Nat} {a2 : Option Addr} {vB vS : Value} {vs : List Value} {ts : List (List Wd)} {ws : List Wd} (hF : ∀ k, F k → k < w.heap.size) (hFb : F b) (hz : w.heap.size ≤ wc.heap.size)
    (hfr : FrameF F w w3) (hb3 : Below wc.heap.size wc w3) (hhb : w3.heap[b]? = some (.cells #[vB, vS, .slice a2 (ts.length + 1) c2] 120 (0, 0))) (hvl : vs.length = ts.length + 1)
    (hO : wc.ownsRow 0 31 1 (.slice a2 (ts.length + 1) c2) (ts.length + 1) vs) (hFT : ∀ k, (Value.slice a2 (ts.length + 1) c2).ownBlock = some k → Grow F w wc k)
    (hel : ∀ i (h : i < (ts ++ [ws]).length), ∃ u, vs[i]? = some u ∧ wc.ownsRow 0 9 1 u (ts ++ [ws])[i].length (strVals (ts ++ [ws])[i]) ∧ (∀ k, u.ownBlock = some k → Grow F w wc k)) :
    RefT (w3.setCell ⟨b, 2, none⟩ (.slice a2 ts.length c2)).drew (Grow F w (w3.setCell ⟨b, 2, none⟩ (.slice a2 ts.length c2)).drew) b vB vS ts ∧ FrameF F w (w3.setCell ⟨b, 2, none⟩ (.slice a2 ts.length c2)).drew := by
  have hsz : (w3.setCell ⟨b, 2, none⟩ (.slice a2 ts.length c2)).heap.size = w3.heap.size := by simp [World.setCell]
  have hz3 := hb3.size
  have hfar : ∀ k, k ≠ b → (w3.setCell ⟨b, 2, none⟩ (.slice a2 ts.length c2)).heap[k]? = w3.heap[k]? := fun k hk => Below.heap_setCell _ _ _ _ hk
  have hin : ∀ k, Grow F w wc k → k < wc.heap.size := fun k hk => by
    rcases hk with hk | hk
    · have := hF k hk; omega
    · exact hk.2
  have hout : ∀ k, Grow F w wc k → Grow F w (w3.setCell ⟨b, 2, none⟩ (.slice a2 ts.length c2)).drew k := fun k hk => by
    rcases hk with hk | hk
    · exact Or.inl hk
    · exact Or.inr ⟨hk.1, by show k < (w3.setCell ⟨b, 2, none⟩ (.slice a2 ts.length c2)).heap.size; rw [hsz]; omega⟩
  have hO3 := owns_below hO hb3
  have hb0 : b < w3.heap.size := by have := hF b hFb; omega
  refine ⟨⟨.slice a2 ts.length c2, ?_, Or.inl hFb, vs.take ts.length, by simp; omega, ?_, ?_, ?_⟩, ?_⟩
  · show (w3.setCell ⟨b, 2, none⟩ (.slice a2 ts.length c2)).heap[b]? = _
    rw [heap_set hhb]; rfl
  · refine owns_stay (w := w3) ?_ (fun k hk => ?_)
    · obtain ⟨h1, h2⟩ := hO3
      refine ⟨by simp; omega, ?_⟩
      rcases h2 with ⟨h2, _⟩ | ⟨g, cap, cur, he, hg1, hg2, hg3, hg4, hg5, hg6⟩
      · simp at h2
      · simp only [Value.slice.injEq] at he
        obtain ⟨rfl, _, rfl⟩ := he
        refine Or.inr ⟨g, c2, cur, rfl, hg1, hg2, by omega, hg4, hg5, ?_⟩
        rw [← hg6, List.take_take]
        congr 1
        omega
    · show (w3.setCell ⟨b, 2, none⟩ (.slice a2 ts.length c2)).heap[k]? = _
      refine hfar k (fun e => ?_)
      subst e
      exact blk_ne hhb hO3 (by decide) (blk_len hk)
  · intro k hk
    exact hout k (hFT k (blk_len hk))
  · intro i hi
    obtain ⟨u, hu, ho, hf⟩ := hel i (by simp; omega)
    rw [List.getElem_append_left hi] at ho
    refine ⟨u, ?_, owns_stay ho (fun k hk => ?_), fun k hk => hout k (hf k hk)⟩
    · rw [List.getElem?_take, if_pos hi]; exact hu
    · show (w3.setCell ⟨b, 2, none⟩ (.slice a2 ts.length c2)).heap[k]? = _
      rw [hfar k (fun e => ?_), hb3.block k (hin k (hf k hk))]
      subst e
      exact blk_ne hhb (owns_below ho hb3) (by decide) hk
  · refine ⟨hfr.os, hfr.tape, hfr.output, ?_, fun k hk hn => ?_⟩
    · show w.heap.size ≤ (w3.setCell ⟨b, 2, none⟩ (.slice a2 ts.length c2)).heap.size
      rw [hsz]; exact hfr.size
    · show (w3.setCell ⟨b, 2, none⟩ (.slice a2 ts.length c2)).heap[k]? = _
      rw [hfar k (fun e => by subst e; exact hn hFb)]
      exact hfr.block k hk hn

set_option maxHeartbeats 2000000 in
set_option maxRecDepth 100000 in
theorem refObserve_ok (F : Nat → Prop) (b : Nat) (vB vS : Value) (ts : List (List Wd)) (s : ByteArray) (w : World) (hF : ∀ k, F k → k < w.heap.size) (hR : RefT w F b vB vS ts)
    (hq : queryB s.data.toList = true) (hne : s.data.toList ≠ []) (hB : bulkT ts + 100 ≤ 1099511627776) :
    Calls Tryz.prog 114 #[.pointer (some ⟨b, 0, none⟩), .string s] w fun e w' => e = .returned (.int .i64 (obsL ts s.data.toList).1) ∧
      RefT w' (Grow F w w') b vB vS (obsL ts s.data.toList).2 ∧ FrameF F w w' := by
  have hs : s.size ≤ 24 := by
    have : s.data.toList.length ≤ 24 := by simp only [queryB, Bool.and_eq_true, decide_eq_true_eq] at hq; exact hq.1
    simpa using this
  obtain ⟨vT, hhb, hFb, vs, hvl, hO, hFT, hel⟩ := hR
  obtain ⟨i8, hi8, hz0, hz1, hz2⟩ := info_parts Tryz.infoLs
  have hT : w.cell? ⟨b, 2, none⟩ = some vT := by rw [cell_of_heap hhb]; rfl
  have hfr : w.frozen? ⟨b, 2, none⟩ = false := frozen_of_heap hhb 2
  have hbT : vT.ownBlock ≠ some b := blk_ne hhb hO (by decide)
  have hnil : s.toList.isEmpty = false := by
    rw [ByteArray.toList_eq]
    cases h : s.data.toList with
    | nil => exact absurd h hne
    | cons a l => rfl
  have hbz : b < w.heap.size := cell_lt hT
  have hlt0 := length_le_bulkT ts
  have HHB : Hid (w.heap[b]? = some (.cells #[vB, vS, vT] 120 (0, 0))) := hhb
  clear hhb
  go_enter Tryz.func114, Tryz.ntmps114
  go_wp2_with fail
  refine (isQuery_any _ _ (by unfold maxLen; omega)).mono ?_
  rintro e w' ⟨rfl, rfl⟩
  rw [hq]
  have HQ : Hid (queryB s.data.toList = true) := hq
  have HNE : Hid (s.data.toList ≠ []) := hne
  clear hq hne
  have hll : (wordsL (foldL s.data.toList)).length ≤ 24 := by
    have := wordsTo_le (foldL s.data.toList) (foldL s.data.toList).length
    rw [foldL_length] at this
    unfold wordsL
    rw [foldL_length]
    have e : s.data.toList.length = s.size := by simp
    omega
  go_upto_region 4 with fail
  go_cut [] from 6 to 42 (fun wx => RefT wx (Grow F w wx) b vB vS (ts ++ [wordsL (foldL s.data.toList)]) ∧ FrameF F w wx)
  case first =>
    go_region_law (first
      | (refine step_append_full rfl _ _ 72 rfl 0 31 i8 (.slice none 0 0) 24 Tryz.underlying72 hi8 hz0 hz1 hz2 rfl _ _ _ rfl (hO1.alloc _) _ [.slice a9 (wordsL (foldL s.data.toList)).length c9] rfl (Rd.one cell_new) hone (by simp; omega) (by simp [maxLen]; omega) (Nat.zero_le _) ?_
         intro vT' w2 hO2 hg2 hblk2
         obtain ⟨aT', cT', rfl, hcT'⟩ := owns_slice hO2
         have hfz2 : w2.frozen? ⟨b, 2, none⟩ = false := (hfar w2 hg2).1
         have hcb2 : w2.cell? ⟨b, 2, none⟩ = some vT := (hfar w2 hg2).2)
      | (go_simp
         go_at_call 155
         refine (words_any s _ (by omega)).mono ?_
         rintro e w1 ⟨v9, rfl, hl1, hb1⟩
         obtain ⟨a9, c9, rfl, hc9⟩ := owns_slice hl1
         have hO1 := owns_below (w := w.drew) hO hb1
         have hT1 : w1.cell? ⟨b, 2, none⟩ = some vT := cell_later hb1 hT
         have hT1a : (w1.alloc (.cells #[.slice a9 (wordsL (foldL s.data.toList)).length c9] 31)).cell? ⟨b, 2, none⟩ = some vT := by rw [World.cell?_alloc_past _ _ _ (cell_lt hT1)]; exact hT1
         have hone : ∀ u ∈ [Value.slice a9 (wordsL (foldL s.data.toList)).length c9], u.oneCell' = true := one_slice hl1
         have hfar : ∀ w2 : World, (w1.alloc (.cells #[.slice a9 (wordsL (foldL s.data.toList)).length c9] 31)).grownBy w2 vT.ownBlock → w2.frozen? ⟨b, 2, none⟩ = false ∧ w2.cell? ⟨b, 2, none⟩ = some vT := far_of hb1 hfr hT hbz hbT))
    all_goals
      go_wp2_with fail
      go_meet
      case rel => exact obs_step hF HHB.out hFb hvl hO hFT hel hb1 hl1 hO2 hg2 hblk2 (by simp)
  case rest =>
    obtain ⟨⟨vT2, hhb2, hFb2, vs2, hvl2, hO2, hFT2, hel2⟩, hfr1⟩ := hcut
    have hTx : TextsR wc vT2 (ts ++ [wordsL (foldL s.data.toList)]) := TextsO.reads ⟨vs2, hvl2, hO2, hFT2, hel2⟩
    have hT2 : wc.cell? ⟨b, 2, none⟩ = some vT2 := by rw [cell_of_heap hhb2]; rfl
    have hbc := cell_lt hT2
    simp only at hbc
    have hbk : bulkT (ts ++ [wordsL (foldL s.data.toList)]) ≤ 1099511627776 := by
      have : bulkT (ts ++ [wordsL (foldL s.data.toList)]) = bulkT ts + ((wordsL (foldL s.data.toList)).length + 1) := by simp [bulkT]
      omega
    have HOB : Hid (obsL ts s.data.toList = if 60 < (knownL (ts ++ [wordsL (foldL s.data.toList)])).length then (4, ts) else (0, ts ++ [wordsL (foldL s.data.toList)])) := by
      show obsL ts s.data.toList = _
      unfold obsL
      rw [if_pos ⟨HQ.out, HNE.out⟩]
    have hkl := knownL_len (ts ++ [wordsL (foldL s.data.toList)]) (ts ++ [wordsL (foldL s.data.toList)]).length (Nat.le_refl _)
    rw [List.take_length] at hkl
    clear HHB hO hFT hel hT hfr hbT hvl
    generalize wordsL (foldL s.data.toList) = ws at *
    go_wp2_with fail
    refine (known_any b vT2 (ts ++ [ws]) wc hbc hT2 hTx hbk).mono ?_
    rintro e w3 ⟨v26, rfl, hk3, hb3⟩
    have hz3 := hb3.size
    obtain ⟨a26, c26, rfl, hc26⟩ := owns_slice hk3
    have hhb3 : w3.heap[b]? = some (.cells #[vB, vS, vT2] 120 (0, 0)) := by rw [hb3.block b hbc]; exact hhb2
    have hfr3 : FrameF F w w3 := hfr1.trans (FrameF.of_below (F := fun _ => False) hb3) (fun _ _ h => h.elim)
    by_cases h60 : 60 < (knownL (ts ++ [ws])).length
    · have HOB2 : Hid (obsL ts s.data.toList = (4, ts)) := by show obsL ts s.data.toList = _; rw [HOB.out, if_pos h60]
      have hlen : (ts ++ [ws]).length = ts.length + 1 := by simp
      rw [hlen] at hO2 hvl2
      obtain ⟨a2, c2, rfl, hc2⟩ := owns_slice hO2
      have hT3 : w3.cell? ⟨b, 2, none⟩ = some (.slice a2 (ts.length + 1) c2) := by rw [cell_of_heap hhb3]; rfl
      have hfz3 : w3.frozen? ⟨b, 2, none⟩ = false := frozen_of_heap hhb3 2
      have hr0 : IntKind.i64.wrap (ts.length : Int) = (ts.length : Int) := wrapK _ _ rfl (by omega) (by omega)
      have hr1 : (ts.length : Int) ≤ (c2 : Int) := by omega
      have HHB3 : Hid (w3.heap[b]? = some (.cells #[vB, vS, .slice a2 (ts.length + 1) c2] 120 (0, 0))) := hhb3
      clear hlen hhb3 hhb2 hT2 hTx
      go_wp2_with fail
      go_region
      go_wp2
      go_ret
      refine ⟨ret_int (by rw [HOB2.out]; rfl), ?_⟩
      rw [HOB2.out]
      exact obs_back hF hFb hfr1.size hfr3 hb3 HHB3.out hvl2 hO2 hFT2 hel2
    · have HOB2 : Hid (obsL ts s.data.toList = (0, ts ++ [ws])) := by show obsL ts s.data.toList = _; rw [HOB.out, if_neg h60]
      go_wp2
      go_ret
      refine ⟨ret_int (by rw [HOB2.out]; rfl), ?_, hfr3⟩
      rw [HOB2.out]
      refine ⟨vT2, hhb3, Or.inl hFb, ?_⟩
      refine TextsO.stay (F := Grow F w wc) ⟨vs2, hvl2, hO2, hFT2, hel2⟩ (fun k hk => hb3.block k ?_) (fun k hk => ?_)
      · rcases hk with hk | hk
        · have := hF k hk; have := hfr1.size; omega
        · exact hk.2
      · rcases hk with hk | hk
        · exact Or.inl hk
        · exact Or.inr ⟨hk.1, by omega⟩

end Go.Proofs.YtocbogeoffeolaaGreatDoor
