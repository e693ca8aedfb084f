/-
  WALKS: the document's own answer: Suggest, where nothing is refused.
-/
import Derived.Test.YtocbogeoffeolaaGreatDoorW6
namespace Go.Proofs.YtocbogeoffeolaaGreatDoor
open Go.RowKit

set_option maxHeartbeats 2000000 in
set_option maxRecDepth 100000 in
theorem refSuggest_ok (b : Nat) (vT : Value) (ts : List (List Wd)) (s : ByteArray) (most : Nat) (w : World) (h0 : 1 ≤ most) (h1 : most ≤ 20) (hq : queryB s.data.toList = true)
    (hT : w.cell? ⟨b, 2, none⟩ = some vT) (hTs : TextsR w vT ts) (hB : bulkT ts ≤ 16777216) :
    Calls Tryz.prog 115 #[.pointer (some ⟨b, 0, none⟩), .string s, .int .i64 most] w fun e w' => ∃ v, e = .returned (.tuple #[v, .int .i64 0]) ∧
      w'.ownsRow w.heap.size 9 1 v (suggestL ts (wordsL (foldL s.data.toList)) most).length (strVals (suggestL ts (wordsL (foldL s.data.toList)) most)) ∧ Below w.heap.size w w' := by
  have hs : s.size ≤ 24 := by
    have : s.data.toList.length ≤ 24 := by simp only [queryB, Bool.and_eq_true, decide_eq_true_eq] at hq; exact hq.1
    simpa using this
  obtain ⟨i0, hi, hz0, hz1, hz2⟩ := info_parts Tryz.info9
  obtain ⟨i3, hi3, hy0, hy1, hy2⟩ := info_parts Tryz.info3
  obtain ⟨i4, hi4, hx0, hx1, hx2⟩ := info_parts Tryz.info4
  have hb := cell_lt hT
  simp only at hb
  have HT : Hid (w.cell? ⟨b, 2, none⟩ = some vT) := hT
  clear hT
  go_enter Tryz.func115, Tryz.ntmps115
  go_wp2_with fail
  refine (isQuery_any s _ (by unfold maxLen; omega)).mono ?_
  rintro e w' ⟨rfl, rfl⟩
  rw [hq]
  have HQ : Hid (queryB s.data.toList = true) := hq
  clear hq
  go_wp2_with fail
  refine (words_any s _ (by omega)).mono ?_
  rintro e w1 ⟨v9, rfl, hl, hb1⟩
  have hz1' := hb1.size
  have hll : (wordsL (foldL s.data.toList)).length ≤ 24 := by
    have := wordsTo_le (foldL s.data.toList) (foldL s.data.toList).length
    rw [foldL_length] at this
    unfold wordsL
    rw [foldL_length]
    have e : s.data.toList.length = s.size := by simp
    omega
  generalize hL0 : wordsL (foldL s.data.toList) = l at *
  have HLL : Hid (wordsL (foldL s.data.toList) = l) := hL0
  clear hL0
  go_wp2_with fail
  refine (known_any b vT ts w1 (by omega) (cell_later hb1 HT.out) (hTs.below hb1) (by omega)).mono ?_
  rintro e w2 ⟨v10, rfl, hk, hb2⟩
  have hz2' := hb2.size
  have hkl : (knownL ts).length ≤ bulkT ts := by
    have := knownL_len ts ts.length (Nat.le_refl _)
    rw [List.take_length] at this; exact this
  have hb02 : Below w.heap.size w w2 := hb1.trans (hb2.mono hz1')
  have hl2 : w2.ownsRow w.heap.size 9 1 v9 l.length (strVals l) := hl.kept (row := none) ⟨hb2.os, hb2.tape, hb2.output, hb2.size, fun k hk _ => hb2.block k hk⟩ (by cases v9.ownBlock <;> simp)
  have hk2 := owns_mono hk hz1'
  clear hl hk
  generalize hws : knownL ts = ws at *
  have HWs : Hid (knownL ts = ws) := hws
  clear hws
  obtain ⟨a10, c10, rfl, hc10⟩ := owns_slice hk2
  go_wp2_with fail
  go_loopw [11, 12, 13] (fun va vb i wr => ∃ k : Nat, k ≤ ws.length ∧ i = .int .i64 k ∧ wr.ownsRow w.heap.size 3 1 va k (intVals (aboveTo ts l ws k)) ∧ wr.ownsRow w.heap.size 3 1 vb k (intVals (belowTo ts l ws k)) ∧
      (va.ownBlock = none ∨ va.ownBlock ≠ vb.ownBlock) ∧
      wr.ownsRow w.heap.size 9 1 v9 l.length (strVals l) ∧ wr.ownsRow w.heap.size 9 1 (.slice a10 ws.length c10) ws.length (strVals ws) ∧ Below w.heap.size w wr) (fun _ _ i _ => ws.length - (intOf i).toNat)
  case atStart => exact ⟨0, Nat.zero_le _, rfl, World.ownsRow_nil _ _ _ _, World.ownsRow_nil _ _ _ _, Or.inl rfl, hl2, hk2, hb02⟩
  case round =>
    obtain ⟨k, hk, rfl, hA, hBl, hne, hl3, hk3, hb3⟩ := hrel
    have hz3 := hb3.size
    by_cases hlt : k < ws.length
    · obtain ⟨bw, ow, rfl, hcw⟩ := owns_cell hk3 k _ (strVals_get ws k hlt)
      have HE1 : Hid (intVals (aboveTo ts l ws (k + 1)) = intVals (aboveTo ts l ws k) ++ [.int .i64 (scoreL ts l ws[k]).1]) := by
        show _ = _
        rw [aboveTo_succ _ _ _ _ hlt, intVals_snoc]
      have HE2 : Hid (intVals (belowTo ts l ws (k + 1)) = intVals (belowTo ts l ws k) ++ [.int .i64 (scoreL ts l ws[k]).2]) := by
        show _ = _
        rw [belowTo_succ _ _ _ _ hlt, intVals_snoc]
      have hsc := scoreL_le ts l ws[k]
      go_wp2_with fail
      refine (score_any b vT v9 ts l ws[k] wr (cell_later hb3 HT.out) (hTs.below hb3) (Rd.of_owns hl3) (by omega) (by omega)).mono ?_
      rintro e w4 ⟨rfl, hb4⟩
      have hz4 := hb4.size
      have hA4 := owns_below hA hb4
      have hB4 := owns_below hBl hb4
      have hl4 := owns_below hl3 hb4
      have hk4 := owns_below hk3 hb4
      have hb04 : Below w.heap.size w w4 := hb3.trans (hb4.mono hz3)
      generalize (scoreL ts l ws[k]).1 = p1 at *
      generalize (scoreL ts l ws[k]).2 = p2 at *
      clear hA hBl hl3 hk3 hcw
      go_wp2_with (at_builtin; go_must (refine wpList_append_full _ rfl _ _ 26 rfl w.heap.size 3 i3 (.int .i64 0) 8 Tryz.underlying26 hi3 hy0 hy1 hy2 rfl _ _ _ rfl (hA4.alloc _) _ [.int .i64 p1] rfl ?c0 ?c00 ?c1 ?c2 ?c3 ?_))
      case c0 => exact Rd.one cell_new
      case c00 => intro u hu; simp at hu; subst hu; rfl
      case c1 => simp; omega
      case c2 => simp [maxLen]; omega
      case c3 => simp; omega
      intro va' w5 hA5 hg5 hblk5
      have hB5 : w5.ownsRow w.heap.size 3 1 u12 k _ := (hB4.alloc _).kept hg5 (ne_symm hne)
      have hl5 := (hl4.alloc _).kept hg5 (owns_ne hl4 hA4 (by decide))
      have hk5 := (hk4.alloc _).kept hg5 (owns_ne hk4 hA4 (by decide))
      have hne5 : u12.ownBlock = none ∨ u12.ownBlock ≠ va'.ownBlock := apart_after hB4 (by omega) (ne_symm hne) hblk5
      have hb5 : Below w.heap.size w w5 := (hb04.alloc (by omega) _).grown hg5 (by simp; omega) (fun b hb => (hA4.lt b hb).1)
      have hz5 := hb5.size
      clear hA4 hB4 hl4 hk4 hg5 hblk5 hne
      go_wp2_with (at_builtin; go_must (refine wpList_append_full _ rfl _ _ 26 rfl w.heap.size 3 i3 (.int .i64 0) 8 Tryz.underlying26 hi3 hy0 hy1 hy2 rfl _ _ _ rfl (hB5.alloc _) _ [.int .i64 p2] rfl ?d0 ?d00 ?d1 ?d2 ?d3 ?_))
      case d0 => exact Rd.one cell_new
      case d00 => intro u hu; simp at hu; subst hu; rfl
      case d1 => simp; omega
      case d2 => simp [maxLen]; omega
      case d3 => simp; omega
      intro vb' w6 hB6 hg6 hblk6
      have hA6 := (hA5.alloc _).kept hg6 (ne_symm hne5)
      have hl6 := (hl5.alloc _).kept hg6 (owns_ne hl5 hB5 (by decide))
      have hk6 := (hk5.alloc _).kept hg6 (owns_ne hk5 hB5 (by decide))
      have hne6 : va'.ownBlock = none ∨ va'.ownBlock ≠ vb'.ownBlock := apart_after hA5 (by omega) (ne_symm hne5) hblk6
      have hb6 : Below w.heap.size w w6 := (hb5.alloc (by omega) _).grown hg6 (by simp; omega) (fun b hb => (hB5.lt b hb).1)
      clear hA5 hB5 hl5 hk5 hg6 hblk6 hne5
      go_wp2
      go_roundw
      case rel =>
        have hr1 := hA6
        rw [← HE1.out] at hr1
        have hr2 := hB6
        rw [← HE2.out] at hr2
        exact ⟨k + 1, by omega, by go_num, hr1, hr2, hne6, hl6, hk6, hb6⟩
      case measure => simp [intOf]; omega
    · have ek : k = ws.length := by omega
      subst ek
      have hAl := aboveTo_len ts l ws
      have hBll := belowTo_len ts l ws
      have HGA : Hid (∀ j, j < ws.length → (aboveTo ts l ws ws.length).getD j 0 = ((ws.map (scoreL ts l)).getD j (0, 0)).1 ∧ (aboveTo ts l ws ws.length).getD j 0 ≤ 268435456) := fun j hj => by
        have := aboveTo_get ts l ws j hj
        exact ⟨this.1, by omega⟩
      have HGB : Hid (∀ j, j < ws.length → (belowTo ts l ws ws.length).getD j 0 = ((ws.map (scoreL ts l)).getD j (0, 0)).2 ∧ (belowTo ts l ws ws.length).getD j 0 ≤ 1677721600) := fun j hj => by
        have := belowTo_get ts l ws j hj
        exact ⟨this.1, by omega⟩
      generalize aboveTo ts l ws ws.length = A at *
      generalize belowTo ts l ws ws.length = Bv at *
      have HAB : Hid (abL ts l = ws.map (scoreL ts l)) := by show abL ts l = _; unfold abL; rw [HWs.out]
      have hab : (ws.map (scoreL ts l)).length = ws.length := by simp
      have HABl : Hid ((ws.map (scoreL ts l)).length = ws.length) := hab
      generalize ws.map (scoreL ts l) = ab at *
      clear hab
      go_wp2_with (at_make; go_must (refine wpList_make_full _ rfl _ _ 209 rfl w.heap.size 4 i4 (.bool false) 1 Tryz.underlying209 hi4 hx0 hx1 .i64 .i64 _ _ ws.length rfl rfl rfl rfl ?m1 ?m2 ?m3 ?_))
      case m1 => rw [hx2]; omega
      case m2 => unfold maxLen; omega
      case m3 => exact hz3
      intro w5 hT5 hg5
      have hA5 := hA.kept hg5 (by cases u11.ownBlock <;> simp)
      have hB5 := hBl.kept hg5 (by cases u12.ownBlock <;> simp)
      have hk5 := hk3.kept hg5 (by cases (Value.slice a10 ws.length c10).ownBlock <;> simp)
      have hb5 : Below w.heap.size w w5 := hb3.grown hg5 hz3 (by simp)
      have hT5' : w5.ownsRow w.heap.size 4 1 (.slice (some ⟨wr.heap.size, 0, none⟩) ws.length ws.length) ws.length (boolVals (tolds ab ws.length 0)) := by
        have e : (madeCells #[Value.bool false] ws.length).toList = boolVals (tolds ab ws.length 0) := made_false _
        rw [← e]; exact hT5
      have hbg : Below w.heap.size w w5 := hb5
      generalize wr.heap.size = g at *
      clear hA hBl hne hl3 hk3 hb3 hz3 hT5 hg5 hl2 hk2 hb02 hbg
      obtain ⟨aA, cA, rfl, hcA⟩ := owns_slice hA5
      obtain ⟨aB, cB, rfl, hcB⟩ := owns_slice hB5
      go_wp2_with fail
      go_loopw [17] (fun vo wr => ∃ r : Nat, r ≤ most ∧ r ≤ ws.length ∧ wr.ownsRow w.heap.size 9 1 vo r (strVals (outTo ab ws r)) ∧
          wr.ownsRow w.heap.size 4 1 (.slice (some ⟨g, 0, none⟩) ws.length ws.length) ws.length (boolVals (tolds ab ws.length r)) ∧ (tolds ab ws.length r).count true = r ∧
          wr.ownsRow w.heap.size 3 1 (.slice aA ws.length cA) ws.length (intVals A) ∧ wr.ownsRow w.heap.size 3 1 (.slice aB ws.length cB) ws.length (intVals Bv) ∧ wr.ownsRow w.heap.size 9 1 (.slice a10 ws.length c10) ws.length (strVals ws) ∧
          ((Value.slice a10 ws.length c10).ownBlock = none ∨ (Value.slice a10 ws.length c10).ownBlock ≠ vo.ownBlock) ∧ Below w.heap.size w wr) (fun vo _ => most - lenV vo)
      case atStart => exact ⟨0, Nat.zero_le _, Nat.zero_le _, World.ownsRow_nil _ _ _ _, hT5', by simp [tolds, toldTo, List.count_replicate], hA5, hB5, hk5, by cases (Value.slice a10 ws.length c10).ownBlock <;> simp [Value.ownBlock], hb5⟩
      case round =>
        obtain ⟨r, hr1, hr2, ho, ht, hcnt, hA6, hB6, hk6, hne, hb6⟩ := hrel
        have hz6 := hb6.size
        obtain ⟨ao, co, rfl, hco⟩ := owns_slice ho
        by_cases hgo : r < most ∧ r < ws.length
        · obtain ⟨hg1, hg2⟩ := hgo
          have htl := tolds_len ab ws.length r
          have HOS : Hid (∀ b, bestTo ab (tolds ab ws.length r) ab.length = some b → outTo ab ws (r + 1) = outTo ab ws r ++ [ws.getD b []]) := outTo_succ ab ws r
          have HTS : Hid (∀ b, bestTo ab (tolds ab ws.length r) ab.length = some b → tolds ab ws.length (r + 1) = (tolds ab ws.length r).set b true) := tolds_succ ab ws.length r
          generalize tolds ab ws.length r = T at *
          go_wp2_with fail
          go_loopw [18, 19] (fun vb i wx => ∃ k m : Nat, k ≤ ws.length ∧ i = .int .i64 k ∧ vb = .int .i64 (bestInt (bestTo ab T k)) ∧ wx = wr.drewN m) (fun _ i _ => ws.length - (intOf i).toNat)
          case atStart => exact ⟨0, 0, Nat.zero_le _, rfl, rfl, rfl⟩
          case round =>
            obtain ⟨k, m, hk, rfl, rfl, rfl⟩ := hrel
            by_cases hlt : k < ws.length
            · obtain ⟨bt, ot, het, hct⟩ := owns_cell ht k _ (boolVals_get T k (by omega))
              simp only [Option.some.injEq, Addr.mk.injEq] at het
              obtain ⟨rfl, rfl, _⟩ := het
              rw [Nat.zero_add] at hct
              cases htk : T.getD k false with
              | true =>
                rw [htk] at hct
                have HB1 : Hid (bestTo ab T (k + 1) = bestTo ab T k) := bestTo_told ab T k htk
                clear htk
                generalize bestTo ab T k = bb at *
                go_wp2_with fail
                go_quiet (fail)
                go_wp2
                go_roundw
                case rel => exact ⟨k + 1, _, by omega, by go_num, by rw [HB1.out], rfl⟩
                case measure => simp [intOf]; omega
              | false =>
                rw [htk] at hct
                cases hbk : bestTo ab T k with
                | none =>
                  have HB1 : Hid (bestTo ab T (k + 1) = some k) := bestTo_first ab T k htk hbk
                  clear htk hbk
                  rw [show bestInt none = -1 from rfl]
                  go_wp2_with fail
                  go_quiet (fail)
                  go_wp2
                  go_roundw
                  case rel => exact ⟨k + 1, _, by omega, by go_num, by rw [HB1.out]; rfl, rfl⟩
                  case measure => simp [intOf]; omega
                | some j =>
                  have hjk := (bestTo_lt ab T k j hbk).1
                  have hjn : j < ws.length := by omega
                  have ga := HGA.out k hlt
                  have gb := HGB.out k hlt
                  have gaj := HGA.out j hjn
                  have gbj := HGB.out j hjn
                  obtain ⟨bA, oA, rfl, hcA1⟩ := owns_cell hA6 k _ (intVals_get A k (by omega))
                  obtain ⟨bA', oA', heA, hcA2⟩ := owns_cell hA6 j _ (intVals_get A j (by omega))
                  simp only [Option.some.injEq, Addr.mk.injEq] at heA
                  obtain ⟨rfl, rfl, _⟩ := heA
                  obtain ⟨bB, oB, rfl, hcB1⟩ := owns_cell hB6 k _ (intVals_get Bv k (by omega))
                  obtain ⟨bB', oB', heB, hcB2⟩ := owns_cell hB6 j _ (intVals_get Bv j (by omega))
                  simp only [Option.some.injEq, Addr.mk.injEq] at heB
                  obtain ⟨rfl, rfl, _⟩ := heB
                  have HBt : Hid (better ab k j = decide (A.getD j 0 * Bv.getD k 0 < A.getD k 0 * Bv.getD j 0)) := by
                    show better ab k j = _
                    unfold better
                    rw [gaj.1, gb.1, ga.1, gbj.1]
                  have gak := ga.2
                  have gbk := gb.2
                  have gaj' := gaj.2
                  have gbj' := gbj.2
                  clear ga gb gaj gbj
                  generalize A.getD k 0 = ak at *
                  generalize A.getD j 0 = aj at *
                  generalize Bv.getD k 0 = bk at *
                  generalize Bv.getD j 0 = bj at *
                  have hm1 := mul_fits ak bj gak gbj'
                  have hm2 := mul_fits aj bk gaj' gbk
                  have hw1 : IntKind.i64.wrap ((ak : Int) * (bj : Int)) = (ak : Int) * (bj : Int) := IntWalk.i64_in _ (by omega)
                  have hw2 : IntKind.i64.wrap ((aj : Int) * (bk : Int)) = (aj : Int) * (bk : Int) := IntWalk.i64_in _ (by omega)
                  have hw3 : wrap64 ((ak : Int) * (bj : Int)) = (ak : Int) * (bj : Int) := IntWalk.wrap64_in _ (by omega)
                  have hw4 : wrap64 ((aj : Int) * (bk : Int)) = (aj : Int) * (bk : Int) := IntWalk.wrap64_in _ (by omega)
                  have hneg : decide ((j : Int) < 0) = false := by simp
                  have hji : (j : Int) < (ws.length : Int) := by omega
                  have hcmp := mul_lt_cast aj bk ak bj
                  rw [show bestInt (some j) = (j : Int) from rfl]
                  by_cases hbt : aj * bk < ak * bj
                  · have HB1 : Hid (bestTo ab T (k + 1) = some k) := bestTo_better ab T k j htk hbk (by rw [HBt.out]; simpa using hbt)
                    have hI : (aj : Int) * (bk : Int) < (ak : Int) * (bj : Int) := hcmp.2 hbt
                    clear hcmp htk hbk hbt
                    go_wp2_with fail
                    go_quiet (fail)
                    go_wp2
                    go_roundw
                    case rel => exact ⟨k + 1, _, by omega, by go_num, by rw [HB1.out]; rfl, rfl⟩
                    case measure => simp [intOf]; omega
                  · have HB1 : Hid (bestTo ab T (k + 1) = some j) := bestTo_worse ab T k j htk hbk (by rw [HBt.out]; simpa using hbt)
                    have hI : ¬ (aj : Int) * (bk : Int) < (ak : Int) * (bj : Int) := fun h => hbt (hcmp.1 h)
                    have hI' : decide ((aj : Int) * (bk : Int) < (ak : Int) * (bj : Int)) = false := by simpa using hI
                    clear hcmp htk hbk hbt
                    go_wp2_with fail
                    go_quiet (fail)
                    go_wp2
                    go_roundw
                    case rel => exact ⟨k + 1, _, by omega, by go_num, by rw [HB1.out]; rfl, rfl⟩
                    case measure => simp [intOf]; omega
            · have ek : k = ws.length := by omega
              subst ek
              obtain ⟨bb, hbb⟩ := best_some ab T (by rw [HABl.out]; exact htl) (by rw [HABl.out]; omega)
              have hbb2 := bestTo_lt ab T ab.length bb hbb
              have hbl : bb < ws.length := by rw [HABl.out] at hbb2; exact hbb2.1
              have HO2 := HOS.out bb hbb
              have HT2 := HTS.out bb hbb
              have HC2 : Hid ((T.set bb true).count true = r + 1) := by
                show _ = _
                rw [count_set T bb (by omega) hbb2.2, hcnt]
              rw [HABl.out] at hbb
              rw [hbb]
              have HO3 : Hid (outTo ab ws (r + 1) = outTo ab ws r ++ [ws.getD bb []]) := HO2
              have HT3 : Hid (tolds ab ws.length (r + 1) = T.set bb true) := HT2
              clear HO2 HT2 hbb hbb2
              have htW : (wr.drewN m).ownsRow w.heap.size 4 1 (.slice (some ⟨g, 0, none⟩) ws.length ws.length) ws.length (boolVals T) := ht
              have hoW : (wr.drewN m).ownsRow w.heap.size 9 1 (.slice ao r co) r (strVals (outTo ab ws r)) := ho
              have hAW : (wr.drewN m).ownsRow w.heap.size 3 1 (.slice aA ws.length cA) ws.length (intVals A) := hA6
              have hBW : (wr.drewN m).ownsRow w.heap.size 3 1 (.slice aB ws.length cB) ws.length (intVals Bv) := hB6
              have hkW : (wr.drewN m).ownsRow w.heap.size 9 1 (.slice a10 ws.length c10) ws.length (strVals ws) := hk6
              have hbW : Below w.heap.size w (wr.drewN m) := below_drewN hb6 m
              generalize wr.drewN m = W at *
              clear ht ho hA6 hB6 hk6 hb6 hz6
              obtain ⟨bt, ot, het, hct⟩ := owns_cell htW bb _ (boolVals_get T bb (by omega))
              simp only [Option.some.injEq, Addr.mk.injEq] at het
              obtain ⟨rfl, rfl, _⟩ := het
              rw [Nat.zero_add] at hct
              rw [show bestInt (some bb) = (bb : Int) from rfl]
              have hfz := owns_frozen htW bb
              have ht7 := owns_set htW bb (.bool true) hbl
              have ho7 := owns_set_other hoW ⟨g, bb, none⟩ (.bool true) (by rcases owns_ne hoW htW (by decide) with h | h; rw [h]; simp; exact h)
              have hk7 := owns_set_other hkW ⟨g, bb, none⟩ (.bool true) (by rcases owns_ne hkW htW (by decide) with h | h; rw [h]; simp; exact h)
              have hA7 := owns_set_other hAW ⟨g, bb, none⟩ (.bool true) (by rcases owns_ne hAW htW (by decide) with h | h; rw [h]; simp; exact h)
              have hB7 := owns_set_other hBW ⟨g, bb, none⟩ (.bool true) (by rcases owns_ne hBW htW (by decide) with h | h; rw [h]; simp; exact h)
              have hb7 : Below w.heap.size w (W.setCell ⟨g, bb, none⟩ (.bool true)) := hbW.setCell (htW.lt g rfl).1 _
              obtain ⟨bw, ow, rfl, hcw2⟩ := owns_cell hk7 bb _ (strVals_getD ws bb hbl)
              have hz7 := hb7.size
              generalize ws.getD bb [] = xb at *
              clear htW hoW hAW hBW hkW hbW
              go_wp2_with (at_builtin; go_must (refine wpList_append_full _ rfl _ _ 31 rfl w.heap.size 9 i0 (.string ⟨#[]⟩) 16 Tryz.underlying31 hi hz0 hz1 hz2 rfl _ _ _ rfl (ho7.alloc _) _ [.string ⟨xb.toArray⟩] rfl ?g0 ?g00 ?g1 ?g2 ?g3 ?_))
              case g0 => go_light; exact Rd.one (cell_new' (by simp))
              case g00 => intro u hu; simp at hu; subst hu; rfl
              case g1 => simp; omega
              case g2 => simp [maxLen]; omega
              case g3 => go_light; simp; simp at hz7; omega
              intro vo' w8 ho8 hg8 hblk8
              have ht8 := (ht7.alloc _).kept hg8 (owns_ne ht7 ho7 (by decide))
              have hA8 := (hA7.alloc _).kept hg8 (owns_ne hA7 ho7 (by decide))
              have hB8 := (hB7.alloc _).kept hg8 (owns_ne hB7 ho7 (by decide))
              have hk8 := (hk7.alloc _).kept hg8 hne
              have hne8 := apart_after hk7 (N := W.heap.size + 1) (by simp) hne hblk8
              have hb8 : Below w.heap.size w w8 := (hb7.alloc hz7 _).grown hg8 (by simp; simp at hz7; omega) (fun b hb => (ho7.lt b hb).1)
              have ho9 : w8.ownsRow w.heap.size 9 1 vo' (r + 1) (strVals (outTo ab ws (r + 1))) := by rw [HO3.out, strVals_snoc]; exact ho8
              have ht9 : w8.ownsRow w.heap.size 4 1 (.slice (some ⟨g, 0, none⟩) ws.length ws.length) ws.length (boolVals (tolds ab ws.length (r + 1))) := by
                rw [HT3.out]
                have e : boolVals (T.set bb true) = (boolVals T).set bb (.bool true) := by simp [boolVals, List.map_set]
                rw [e]; exact ht8
              have hcnt9 : (tolds ab ws.length (r + 1)).count true = r + 1 := by rw [HT3.out]; exact HC2.out
              have HCN : Hid ((tolds ab ws.length (r + 1)).count true = r + 1) := hcnt9
              clear ht7 ho7 hA7 hB7 hk7 hb7 hg8 hblk8 ho8 ht8 hcnt9 hne
              obtain ⟨av, cv, rfl, hcv⟩ := owns_slice ho9
              go_wp2
              go_roundw
              case rel => exact ⟨r + 1, by omega, by omega, ho9, ht9, HCN.out, hA8, hB8, hk8, hne8, hb8⟩
              case measure => simp [lenV]; omega
        · have HF : Hid (suggestL ts l most = outTo ab ws r) := by
            show suggestL ts l most = _
            unfold suggestL outTo
            rw [HAB.out, HWs.out, show min most ws.length = r by omega]
          by_cases hm : r < most
          · have hn : ¬ r < ws.length := fun h => hgo ⟨hm, h⟩
            go_wp2
            go_ret2
            refine ⟨_, rfl, ?_, hb6⟩
            rw [HLL.out, HF.out]
            have e : (outTo ab ws r).length = r := by have := ho.1; rw [strVals_length] at this; omega
            rw [e]; exact ho
          · go_wp2
            go_ret2
            refine ⟨_, rfl, ?_, hb6⟩
            rw [HLL.out, HF.out]
            have e : (outTo ab ws r).length = r := by have := ho.1; rw [strVals_length] at this; omega
            rw [e]; exact ho

end Go.Proofs.YtocbogeoffeolaaGreatDoor
