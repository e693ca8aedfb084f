/-
  WALKS: the document's own answer: Dump, Load. (Made by wip/mkrload.py.)
  SEGMENTS: the two sides are as they are asked; the walk of the law.
-/
import Derived.Test.YtocbogeoffeolaaGreatDoorSegAN
import Derived.Test.YtocbogeoffeolaaGreatDoorSegAQ
import Derived.Test.YtocbogeoffeolaaGreatDoorSegAU
namespace Go.Proofs.YtocbogeoffeolaaGreatDoor
open Go.RowKit

theorem okG_raw2 {e : Ent} (h : okG e) : rawOk e ∧ e.text.length ≤ 24 := by
  have hn : ∀ x : Wd, nameB x = true → x.length ≤ 8 := fun x hx => by
    simp only [nameB, Bool.and_eq_true, decide_eq_true_eq] at hx
    omega
  have hq : ∀ x : Wd, queryB x = true → x.length ≤ 24 := fun x hx => by
    simp only [queryB, Bool.and_eq_true, decide_eq_true_eq] at hx
    exact hx.1
  rcases h with ⟨_, h2, h3, _, h5, h6, h7, h8⟩ | ⟨h1, h2⟩
  · have := hn _ h2
    have := hq _ h3
    exact ⟨⟨by omega, by omega, ⟨by omega, by omega⟩, by omega, by omega⟩, by omega⟩
  · have := hn _ h2
    rw [h1]
    exact ⟨⟨by simp only; omega, by simp, ⟨by simp, by simp⟩, by simp, by simp⟩, by simp⟩
theorem okseg_raw {l : List Ent} (h : OkSeg l) : (∀ e ∈ l, rawOk e) ∧ l.length ≤ 1048576 ∧ (l.map fun e => e.text.length).sum ≤ 1048576 := by
  have := okseg_len h
  exact ⟨fun e he => (okG_raw2 (h.each e he)).1, by omega, text_sum l (fun e he => (okG_raw2 (h.each e he)).2) (by omega)⟩

set_option maxHeartbeats 1000000 in
set_option maxRecDepth 100000 in
theorem refDump (F : Nat → Prop) (b : Nat) (buf : List Ent) (ss : List (List Ent)) (ts : List (List Wd)) (n : Int) (w : World) (hR : RefE w F b buf ss ts) (hok : ∀ l ∈ ss, OkSeg l) :
    Calls Tryz.prog 108 #[.pointer (some ⟨b, 0, none⟩), .int .i64 n] w fun e w' => e = .returned (.tuple #[.string ⟨(dumpL ss n).1.toArray⟩, .int .i64 (dumpL ss n).2]) ∧ Below w.heap.size w w' := by
  obtain ⟨vB, vS, vT, hh, hFb, hEB, hSS, hTT⟩ := id hR
  obtain ⟨vs, hvl, hos, hFS, hel⟩ := id hSS
  obtain ⟨aS, cS, rfl, hcS⟩ := owns_slice hos
  have hc1 : w.cell? ⟨b, 1, none⟩ = some (.slice aS ss.length cS) := by rw [cell_of_heap hh]; rfl
  by_cases hneg : n < 0
  · have HU : Hid (dumpL ss n = ([], 6)) := by show dumpL _ _ = _; unfold dumpL; rw [if_pos (Or.inl hneg)]
    clear hR hh hEB hTT hSS hos hel hvl hFS hok
    go_enter Tryz.func108, Tryz.ntmps108
    go_wp2
    go_ret2
    rw [HU.out]
    exact ⟨rfl, Below.refl _ _⟩
  · by_cases hbig : (ss.length : Int) ≤ n
    · have HU : Hid (dumpL ss n = ([], 6)) := by show dumpL _ _ = _; unfold dumpL; rw [if_pos (Or.inr hbig)]
      clear hR hh hEB hTT hSS hos hel hvl hFS hok
      go_enter Tryz.func108, Tryz.ntmps108
      go_wp2
      go_ret2
      rw [HU.out]
      exact ⟨rfl, Below.refl _ _⟩
    · obtain ⟨m, rfl⟩ := Int.eq_ofNat_of_zero_le (by omega : 0 ≤ n)
      have hm : m < ss.length := by omega
      obtain ⟨u, hu, hE⟩ := hel m hm
      obtain ⟨bS, oS, rfl, hcl⟩ := owns_cell hos m _ hu
      obtain ⟨au, cu, rfl, hcu⟩ := owns_slice_wide hE.1
      have hk := hok ss[m] (List.getElem_mem hm)
      obtain ⟨k1, k2, k3⟩ := okseg_raw hk
      have hpk := refPack _ ss[m] w (RdW.of_owns hE.1) k1 k2 k3
      rw [pack_eq (okseg_key hk)] at hpk
      have HU : Hid (dumpL ss (m : Int) = (packC ss[m], 0)) := by
        show dumpL _ _ = _
        unfold dumpL
        rw [if_neg (by omega)]
        have e : ss.getD ((m : Int)).toNat [] = ss[m] := by rw [Int.toNat_natCast, List.getD_eq_getElem?_getD, List.getElem?_eq_getElem hm]; rfl
        rw [e]
      have hmi : (m : Int) < (ss.length : Int) := by omega
      clear hR hh hEB hTT hSS hos hel hvl hFS hok hneg k1 k2 k3 hk hE hu
      go_enter Tryz.func108, Tryz.ntmps108
      go_wp2_with fail
      refine hpk.mono ?_
      rintro e w1 ⟨rfl, hb1⟩
      have HB1 : Hid (Below w.heap.size w w1) := hb1
      clear hpk hb1
      go_wp2
      go_ret2
      rw [HU.out]
      exact ⟨rfl, HB1.out⟩

theorem bulkS_load {buf l : List Ent} {ss : List (List Ent)} (h : Inv buf ss) (hl : l.length ≤ 130) : bulkS (ss ++ [l]) ≤ 536870912 := by
  have h1 := inv_bulk h
  simp [bulkS] at h1 ⊢
  omega
/-- Between Load's steps: the new engine at g, its row v of n segments; what was loaded lies beside it. -/
structure LoadS (w : World) (g : Nat) (l : List Ent) (uL : Value) (w' : World) (v : Value) (n : Nat) (vs : List Value) : Prop where
  below : Below w.heap.size w w'
  blk : w'.heap[g]? = some (.cells #[.slice none 0 0, v, .slice none 0 0] 120 (0, 0))
  row : w'.ownsRow w.heap.size 75 1 v n vs
  ent : w'.ownsRow w.heap.size 202 5 uL l.length (entVals l)
  gz : w.heap.size ≤ g
theorem load_first {w w2 w3 : World} {g : Nat} {l : List Ent} {uL v3 : Value} {n : Nat} {vs : List Value} (hb : Below w.heap.size w w2) (hk : w2.heap[g]? = some (.cells #[.slice none 0 0, .slice none 0 0, .slice none 0 0] 120 (0, 0)))
    (hl : w2.ownsRow w.heap.size 202 5 uL l.length (entVals l)) (ho : w3.ownsRow w.heap.size 75 1 v3 n vs) (hg : w2.grownBy w3 (Value.slice none 0 0).ownBlock) (hgz : w.heap.size ≤ g) :
    LoadS w g l uL (w3.setCell ⟨g, 1, none⟩ v3) v3 n vs := by
  have hz := hb.size
  have hz3 := hg.size
  have hno : ∀ k, k < w2.heap.size → w3.heap[k]? = w2.heap[k]? := fun k hk => hg.block k hk (by simp [Value.ownBlock])
  have hk3 : w3.heap[g]? = some (.cells #[.slice none 0 0, .slice none 0 0, .slice none 0 0] 120 (0, 0)) := by rw [hno g (heap_lt hk)]; exact hk
  have hl3 : w3.ownsRow w.heap.size 202 5 uL l.length (entVals l) := owns_stay_wide hl (fun k hk' => hno k (hl.lt k hk').2)
  have hfar : ∀ k, k ≠ g → (w3.setCell ⟨g, 1, none⟩ v3).heap[k]? = w3.heap[k]? := fun k hk => Below.heap_setCell _ _ _ _ hk
  refine ⟨?_, by rw [heap_set hk3]; rfl, owns_stay ho (fun k hk' => hfar k (fun e => by subst e; exact blk_ne hk3 ho (by decide) hk')), owns_stay_wide hl3 (fun k hk' => hfar k (fun e => by subst e; exact blk_ne_wide hk3 hl3 (by decide) hk')), hgz⟩
  exact Below.setCell (hb.trans ⟨hg.os, hg.tape, hg.output, hg.size, fun k hk' => hno k (by omega)⟩) hgz _
theorem load_second {w w4 w6 : World} {g : Nat} {l : List Ent} {uL v3 v6 : Value} {n : Nat} {vs : List Value} {o : Obj} (h : LoadS w g l uL w4 v3 n vs) (ho : w6.ownsRow w.heap.size 75 1 v6 (n + 1) (vs ++ [uL])) (hg : (w4.alloc o).grownBy w6 v3.ownBlock) :
    w6.heap[g]? = some (.cells #[.slice none 0 0, v3, .slice none 0 0] 120 (0, 0)) ∧ LoadS w g l uL (w6.setCell ⟨g, 1, none⟩ v6) v6 (n + 1) (vs ++ [uL]) := by
  have hz := h.below.size
  have hz6 : w4.heap.size ≤ w6.heap.size := by have := hg.size; simp at this; omega
  have hgl := heap_lt h.blk
  have hno : ∀ k, k < w4.heap.size → v3.ownBlock ≠ some k → w6.heap[k]? = w4.heap[k]? := fun k hk hne => by rw [hg.block k (by simp; omega) (fun e => hne e.symm), Below.heap_alloc _ _ _ hk]
  have hk6 : w6.heap[g]? = some (.cells #[.slice none 0 0, v3, .slice none 0 0] 120 (0, 0)) := by rw [hno g hgl (blk_ne h.blk h.row (by decide))]; exact h.blk
  have hl6 : w6.ownsRow w.heap.size 202 5 uL l.length (entVals l) := owns_stay_wide h.ent (fun k hk' => hno k (h.ent.lt k hk').2 (fun e => owns_ne_wide h.ent h.row (by decide) k hk' e))
  have hfar : ∀ k, k ≠ g → (w6.setCell ⟨g, 1, none⟩ v6).heap[k]? = w6.heap[k]? := fun k hk => Below.heap_setCell _ _ _ _ hk
  refine ⟨hk6, ?_, by rw [heap_set hk6]; rfl, owns_stay ho (fun k hk' => hfar k (fun e => by subst e; exact blk_ne hk6 ho (by decide) hk')), owns_stay_wide hl6 (fun k hk' => hfar k (fun e => by subst e; exact blk_ne_wide hk6 hl6 (by decide) hk')), h.gz⟩
  refine Below.setCell (h.below.trans ⟨?_, ?_, ?_, hz6, fun k hk' => hno k (by omega) (fun e => by have := (h.row.lt k e).1; omega)⟩) h.gz _
  · exact hg.os
  · exact hg.tape
  · exact hg.output
/-- The new engine's segments, element by element. -/
theorem load_zip {w w' : World} {F : Nat → Prop} {g : Nat} {l : List Ent} {uL v : Value} {n : Nat} {vs : List Value} {ss : List (List Ent)} (hF : ∀ k, F k → k < w.heap.size) (hZ : Zip (EntsO w F) vs ss) (h : LoadS w g l uL w' v n (vs ++ [uL])) :
    Zip (EntsO w' (Grow F w w')) (vs ++ [uL]) (ss ++ [l]) := by
  refine Zip.append (hZ.mono (fun u x hE => ⟨owns_stay_wide hE.1 (fun k hk => h.below.block k (hF k (hE.2 k hk))), fun k hk => Or.inl (hE.2 k hk)⟩)) (Zip.one ⟨owns_mono h.ent (Nat.zero_le _), fun k hk => Or.inr ⟨(h.ent.lt k hk).1, (h.ent.lt k hk).2⟩⟩)
theorem load_there_ref {w w' : World} {F : Nat → Prop} {g : Nat} {l : List Ent} {uL v : Value} {vs : List Value} {ss : List (List Ent)} (hF : ∀ k, F k → k < w.heap.size) (hZ : Zip (EntsO w F) vs ss) (h : LoadS w g l uL w' v (ss.length + 1) (vs ++ [uL])) (hbk : bulkS (ss ++ [l]) ≤ 536870912) :
    Calls Tryz.prog 143 #[.pointer (some ⟨g, 0, none⟩)] w' fun e w'' => ∃ u, e = .returned u ∧ w''.ownsRow w'.heap.size 202 5 u (thereL (ss ++ [l]) []).length (entVals (thereL (ss ++ [l]) [])) ∧ Below w'.heap.size w' w'' := by
  have hz := load_zip hF hZ h
  have hrow : w'.ownsRow 0 75 1 v (ss ++ [l]).length (vs ++ [uL]) := by rw [List.length_append]; exact owns_mono h.row (Nat.zero_le _)
  exact there_any (Grow F w w') g (.slice none 0 0) v (.slice none 0 0) [] (ss ++ [l]) w' h.blk ⟨World.ownsRow_nil _ _ _ _, fun k hk => by simp [Value.ownBlock] at hk⟩ ⟨vs ++ [uL], hz.1, hrow, fun k hk => Or.inr (h.row.lt k hk), hz.2⟩ hbk (by simp)
theorem load_end {w w' w8 : World} {F : Nat → Prop} {b g : Nat} {l : List Ent} {uL v vB vS vT : Value} {vs : List Value} {buf : List Ent} {ss : List (List Ent)} {ts : List (List Wd)} (hF : ∀ k, F k → k < w.heap.size)
    (hh : w.heap[b]? = some (.cells #[vB, vS, vT] 120 (0, 0))) (hFb : F b) (hEB : EntsO w F vB buf) (hT : TextsO w F vT ts) (hZ : Zip (EntsO w F) vs ss) (h : LoadS w g l uL w' v (ss.length + 1) (vs ++ [uL])) (hb8 : Below w'.heap.size w' w8) :
    w8.heap[b]? = some (.cells #[vB, vS, vT] 120 (0, 0)) ∧ RefE (w8.setCell ⟨b, 1, none⟩ v) (Grow F w (w8.setCell ⟨b, 1, none⟩ v)) b buf (ss ++ [l]) ts ∧ FrameF F w (w8.setCell ⟨b, 1, none⟩ v) := by
  have hz8 := hb8.size
  have hb : Below w.heap.size w w8 := h.below.trans (hb8.mono h.below.size)
  have hzip := load_zip hF hZ h
  have hrow : w8.ownsRow w.heap.size 75 1 v (ss ++ [l]).length (vs ++ [uL]) := by rw [List.length_append]; exact owns_stay h.row (fun k hk => hb8.block k (h.row.lt k hk).2)
  refine ref_segs hF hh hFb hEB hT hb hrow hzip.1 (fun i hi => ?_)
  obtain ⟨u, hu, hE⟩ := hzip.2 i hi
  exact ⟨u, hu, owns_stay_wide hE.1 (fun k hk => hb8.block k (hE.1.lt k hk).2), fun k hk => by
    rcases hE.2 k hk with h1 | h1
    · exact Or.inl h1
    · exact Or.inr ⟨h1.1, by omega⟩⟩

set_option maxHeartbeats 4000000 in
set_option maxRecDepth 100000 in
theorem refLoad (F : Nat → Prop) (b : Nat) (buf : List Ent) (ss : List (List Ent)) (ts : List (List Wd)) (packed : ByteArray) (w : World) (hF : ∀ k, F k → k < w.heap.size) (hR : RefE w F b buf ss ts) (hI : Inv buf ss) (hs : packed.size ≤ maxLen) :
    Calls Tryz.prog 110 #[.pointer (some ⟨b, 0, none⟩), .string packed] w fun e w' => e = .returned (.int .i64 (loadL buf ss packed.data.toList).1) ∧
      RefE w' (Grow F w w') b buf (loadL buf ss packed.data.toList).2 ts ∧ FrameF F w w' := by
  obtain ⟨i8, hi8, hy0, hy1, hy2⟩ := info_parts Tryz.infoLe
  have HR : Hid (RefE w F b buf ss ts) := hR
  have HF : Hid (∀ k, F k → k < w.heap.size) := hF
  have HINV : Hid (Inv buf ss) := hI
  have h6s := hI.few
  have hun := refUnpack packed w hs
  obtain ⟨vB, vS, vT, hh, hFb, hEB, hSS, hTT⟩ := id hR
  obtain ⟨vs, hvl, hos, hFS, hel⟩ := id hSS
  obtain ⟨aS, cS, rfl, hcS⟩ := owns_slice hos
  obtain ⟨aB, cB, rfl, hcB⟩ := owns_slice_wide hEB.1
  have hbz := hF b hFb
  have hc0 : w.cell? ⟨b, 0, none⟩ = some (.slice aB buf.length cB) := by rw [cell_of_heap hh]; rfl
  have hc1 : w.cell? ⟨b, 1, none⟩ = some (.slice aS ss.length cS) := by rw [cell_of_heap hh]; rfl
  have HH : Hid (w.heap[b]? = some (.cells #[.slice aB buf.length cB, .slice aS ss.length cS, vT] 120 (0, 0))) := hh
  have HEB : Hid (EntsO w F (.slice aB buf.length cB) buf) := hEB
  have HTT : Hid (TextsO w F vT ts) := hTT
  have HOS : Hid (w.ownsRow 0 75 1 (.slice aS ss.length cS) ss.length vs) := hos
  have HZ : Hid (Zip (EntsO w F) vs ss) := ⟨hvl, hel⟩
  have HVL : Hid (vs.length = ss.length) := hvl
  have HOne : Hid (∀ u ∈ vs, u.oneCell' = true) := fun u hu => by
    obtain ⟨i, hi, rfl⟩ := List.mem_iff_getElem.1 hu
    obtain ⟨u', hu', hE⟩ := hel i (by omega)
    rw [List.getElem?_eq_getElem hi] at hu'
    simp only [Option.some.injEq] at hu'
    obtain ⟨a, c, e, _⟩ := owns_slice_wide hE.1
    rw [hu', e]; rfl
  clear hR hh hEB hTT hSS hos hel hF hI hFS hvl
  cases hu : unpackL packed.data.toList with
  | none =>
    have HU : Hid (loadL buf ss packed.data.toList = (7, ss)) := by show loadL _ _ _ = _; unfold loadL; rw [hu]
    rw [hu] at hun
    clear hu
    go_enter Tryz.func110, Tryz.ntmps110
    go_wp2_with fail
    refine hun.mono ?_
    rintro e w1 ⟨hb1, aU, nU, cU, rfl⟩
    have HB1 : Hid (Below w.heap.size w w1) := hb1
    clear hb1 hun
    go_wp2
    go_ret
    refine ⟨ret_int (by rw [HU.out]; rfl), ?_, FrameF.of_below HB1.out⟩
    rw [HU.out]
    exact ref_below HR.out HF.out HB1.out
  | some l =>
    have HU : Hid (loadL buf ss packed.data.toList = if 0 < buf.length then (3, ss) else if 6 < ss.length + 1 ∨ 30 < (thereL (ss ++ [l]) []).length then (4, ss) else (0, ss ++ [l])) := by show loadL _ _ _ = _; unfold loadL; rw [hu]
    have hll := okseg_len (unpack_ok hu).1
    rw [hu] at hun
    clear hu
    by_cases hb0 : 0 < buf.length
    · have HUU : Hid (loadL buf ss packed.data.toList = (3, ss)) := by show loadL _ _ _ = _; rw [HU.out, if_pos hb0]
      have hb0i : (0 : Int) < (buf.length : Int) := by omega
      go_enter Tryz.func110, Tryz.ntmps110
      go_wp2_with fail
      refine hun.mono ?_
      rintro e w1 ⟨hb1, aU, cU, rfl, hoU⟩
      have HB1 : Hid (Below w.heap.size w w1) := hb1
      have hc01 := cell_later hb1 hc0
      clear hb1 hun hoU
      go_wp2
      go_ret
      refine ⟨ret_int (by rw [HUU.out]; rfl), ?_, FrameF.of_below HB1.out⟩
      rw [HUU.out]
      exact ref_below HR.out HF.out HB1.out
    · have hb0i : ¬ ((0 : Int) < (buf.length : Int)) := by omega
      go_enter Tryz.func110, Tryz.ntmps110
      go_wp2_with fail
      refine hun.mono ?_
      rintro e w1 ⟨hb1, aU, cU, rfl, hoU⟩
      have HB1 : Hid (Below w.heap.size w w1) := hb1
      have hc01 := cell_later hb1 hc0
      have hc11 := cell_later hb1 hc1
      have HOU : Hid (w1.ownsRow w.heap.size 202 5 (.slice aU l.length cU) l.length (entVals l)) := hoU
      clear hb1 hun hoU
      go_wp2
      have hz1 := HB1.out.size
      obtain ⟨w2, hw2⟩ : ∃ w2, w2 = w1.alloc (.cells #[.slice none 0 0, .slice none 0 0, .slice none 0 0] 120) := ⟨_, rfl⟩
      have hb12 : Below w1.heap.size w1 w2 := by rw [hw2]; exact (Below.refl _ _).alloc (Nat.le_refl _) _
      have HB2 : Hid (Below w.heap.size w w2) := HB1.out.trans (hb12.mono hz1)
      have HK2 : Hid (w2.heap[w1.heap.size]? = some (.cells #[.slice none 0 0, .slice none 0 0, .slice none 0 0] 120 (0, 0))) := by show _ = _; rw [hw2]; exact heap_alloc_new w1 _
      have HLR : Hid (w2.ownsRow w.heap.size 202 5 (.slice aU l.length cU) l.length (entVals l)) := owns_stay_wide HOU.out (fun k hk => hb12.block k (HOU.out.lt k hk).2)
      have HRS : Hid (Rd w2 (.slice aS ss.length cS) vs) := by
        have h := Rd.of_owns (owns_stay HOS.out (fun k hk => HB2.out.block k (HOS.out.lt k hk).2))
        exact h
      have hc12 := cell_later hb12 hc11
      have hcg : w2.cell? ⟨w1.heap.size, 1, none⟩ = some (.slice none 0 0) := by rw [cell_of_heap HK2.out]; rfl
      rw [← hw2]
      clear hw2 hb12 hc01 hc11
      have hgz := hz1
      clear hz1
      generalize w1.heap.size = g at *
      refine wp_region_held (S := fun w' => True) (by kernel_rfl) ?_
      refine wpAnyH_take (i := 0) (v := ?_) rfl (by kernel_rfl) (by kernel_rfl) (by kernel_rfl) (fun _ _ _ h => h) (Or.inl ⟨by rfl, ?_⟩) trivial ?_
      rotate_left
      · rintro w' _; go_simp; first | done | with_reducible rfl
      refine wpAnyH_take (i := 1) (v := ?_) rfl (by kernel_rfl) (by kernel_rfl) (by kernel_rfl) (fun _ _ _ h => h) (Or.inl ⟨by rfl, ?_⟩) trivial ?_
      rotate_left
      · rintro w' _; go_simp; first | done | with_reducible rfl
      refine wpAnyH_take (i := 2) (v := ?_) rfl (by kernel_rfl) (by kernel_rfl) (by kernel_rfl) (fun _ _ _ h => h) (Or.inl ⟨by rfl, ?_⟩) trivial ?_
      rotate_left
      · rintro w' _; go_simp; first | done | with_reducible rfl
      refine wpAnyH_take (i := 3) (v := ?_) rfl (by kernel_rfl) (by kernel_rfl) (by kernel_rfl) (fun _ _ _ h => h) (Or.inl ⟨by rfl, ?_⟩) trivial ?_
      rotate_left
      · rintro w' _; go_simp; first | done | with_reducible rfl
      refine wpAnyH_take (i := 5) (v := ?_) rfl (by kernel_rfl) (by kernel_rfl) (by kernel_rfl) (fun _ _ _ h => h) (Or.inl ⟨by rfl, ?_⟩) trivial ?_
      rotate_left
      · rintro w' _; go_simp; first | done | with_reducible rfl
      refine wpAnyH_take (i := 6) (v := ?_) rfl (by kernel_rfl) (by kernel_rfl) (by kernel_rfl) (fun _ _ _ h => h) (Or.inl ⟨by rfl, ?_⟩) trivial ?_
      rotate_left
      · rintro w' _; go_simp; first | done | with_reducible rfl
      refine wpAnyH_take (i := 7) (v := ?_) rfl (by kernel_rfl) (by kernel_rfl) (by kernel_rfl) (fun _ _ _ h => h) (Or.inl ⟨by rfl, ?_⟩) trivial ?_
      rotate_left
      · rintro w' _; go_simp; first | done | with_reducible rfl
      refine wpAnyH_all (rs := [4, 8]) (by kernel_rfl) (by simp) ?_
      intro i hi
      simp only [List.mem_cons, List.mem_nil_iff, or_false] at hi
      rcases hi with rfl | rfl
      · refine wpOp_step (by rfl) fun K' hK' => ?_
        rw [if_pos (by rfl)]
        unfold Oper.wp
        go_simp
        refine hK' _ _ ⟨trivial, ?_⟩
        clear hK'
        refine wpAnyH_all (rs := [8]) (by kernel_rfl) (by simp) ?_
        intro i hi
        simp only [List.mem_singleton] at hi
        subst hi
        refine wpOp_step (by rfl) fun K' hK' => ?_
        rw [if_pos (by rfl)]
        unfold Oper.wp
        go_simp
        refine hK' _ _ ⟨trivial, ?_⟩
        clear hK'
        refine wpAnyH_all (rs := [9]) (by kernel_rfl) (by simp) ?_
        intro i hi
        simp only [List.mem_singleton] at hi
        subst hi
        refine wpOp_step (by rfl) fun K' hK' => ?_
        rw [if_pos (by rfl)]
        refine oper_append_full _ _ _ 118 rfl w.heap.size 75 i8 (.slice none 0 0) 24 Tryz.underlying118 hi8 hy0 hy1 hy2 rfl (.slice none 0 0) 0 [] rfl (World.ownsRow_nil _ _ _ _) _ _ rfl HRS.out HOne.out ?c1 ?c2 ?c3 ?_
        case c1 => rw [HVL.out]; omega
        case c2 => rw [HVL.out]; unfold maxLen; omega
        case c3 => have := HB2.out.size; exact this
        intro v3 w3 hO3 hg3 hl3
        rw [Nat.zero_add, List.nil_append, HVL.out] at hO3
        obtain ⟨a3, c3, rfl, hc3⟩ := owns_slice hO3
        refine hK' _ _ ⟨trivial, ?_⟩
        clear hK'
        have hk3 : w3.heap[g]? = some (.cells #[.slice none 0 0, .slice none 0 0, .slice none 0 0] 120 (0, 0)) := by rw [hg3.block g (heap_lt HK2.out) (by simp [Value.ownBlock])]; exact HK2.out
        have hcw : w3.cell? ⟨g, 1, none⟩ = some (.slice none 0 0) := by rw [cell_of_heap hk3]; rfl
        have hfw : w3.frozen? ⟨g, 1, none⟩ = false := frozen_of_heap hk3 1
        refine wpAnyH_take (i := 10) (v := ?_) rfl (by kernel_rfl) (by kernel_rfl) (by kernel_rfl) (fun _ _ _ h => h) (Or.inl ⟨by rfl, ?_⟩) trivial ?_
        rotate_left
        · rintro w' _; go_simp; first | done | with_reducible rfl
        refine wpAnyH_take (i := 11) (v := ?_) rfl (by kernel_rfl) (by kernel_rfl) (by kernel_rfl) (fun _ _ _ h => h) (Or.inl ⟨by rfl, ?_⟩) trivial ?_
        rotate_left
        · rintro w' _; go_simp; first | done | with_reducible rfl
        refine wpAnyH_all (rs := [12]) (by kernel_rfl) (by simp) ?_
        intro i hi
        simp only [List.mem_singleton] at hi
        subst hi
        refine wpOp_step (by rfl) fun K' hK' => ?_
        rw [if_pos (by rfl)]
        unfold Oper.wp
        go_simp
        refine hK' _ _ ⟨trivial, wpAnyH_done (by kernel_rfl) ?_ _⟩
        clear hK' hcw hfw
        have HS3 := load_first HB2.out HK2.out HLR.out hO3 (show w2.grownBy w3 (Value.slice none 0 0).ownBlock from ⟨hg3.os, hg3.tape, hg3.output, hg3.size, hg3.block⟩) hgz
        obtain ⟨w4, hw4⟩ : ∃ w4, w4 = w3.setCell ⟨g, 1, none⟩ (.slice a3 ss.length c3) := ⟨_, rfl⟩
        rw [← hw4] at HS3 ⊢
        have HS4 : Hid (LoadS w g l (.slice aU l.length cU) w4 (.slice a3 ss.length c3) ss.length vs) := HS3
        clear HS3 hO3 hg3 hl3 hk3 hw4
        have hc41 : w4.cell? ⟨g, 1, none⟩ = some (.slice a3 ss.length c3) := by rw [cell_of_heap HS4.out.blk]; rfl
        have HZ4 := HS4.out.below.size
        go_wp2_with (at_builtin; go_must (refine wpList_append_full _ rfl _ _ 118 rfl w.heap.size 75 i8 (.slice none 0 0) 24 Tryz.underlying118 hi8 hy0 hy1 hy2 rfl _ _ _ rfl (HS4.out.row.alloc _) _ [.slice aU l.length cU] rfl ?k0 ?k9 ?k1 ?k2 ?k3 ?_))
        case k0 => go_light; exact Rd.one (cell_new' rfl)
        case k9 => intro u hu; simp at hu; subst hu; rfl
        case k1 => simp; omega
        case k2 => simp [maxLen]; omega
        case k3 => simp; omega
        intro v6 w6 hO6 hg6 hl6
        obtain ⟨a6, c6, rfl, hc6⟩ := owns_slice hO6
        have HS6 := load_second HS4.out hO6 hg6
        have hc61 : w6.cell? ⟨g, 1, none⟩ = some (.slice a3 ss.length c3) := by rw [cell_of_heap HS6.1]; rfl
        have hf61 : w6.frozen? ⟨g, 1, none⟩ = false := frozen_of_heap HS6.1 1
        have HS7 : Hid (LoadS w g l (.slice aU l.length cU) (w6.setCell ⟨g, 1, none⟩ (.slice a6 (ss.length + 1) c6)) (.slice a6 (ss.length + 1) c6) (ss.length + 1) (vs ++ [.slice aU l.length cU])) := HS6.2
        clear HS6 hO6 hg6 hl6 hc41
        by_cases h6 : 6 < ss.length + 1
        · have h6i : (6 : Int) < (ss.length : Int) + 1 := by omega
          have HUU : Hid (loadL buf ss packed.data.toList = (4, ss)) := by show loadL _ _ _ = _; rw [HU.out, if_neg hb0, if_pos (Or.inl h6)]
          have HBF : Hid (Below w.heap.size w (w6.setCell ⟨g, 1, none⟩ (.slice a6 (ss.length + 1) c6))) := HS7.out.below
          go_wp2
          go_ret
          refine ⟨ret_int (by rw [HUU.out]; rfl), ?_, FrameF.of_below HBF.out⟩
          rw [HUU.out]
          exact ref_below HR.out HF.out HBF.out
        · have h6i : ¬ ((6 : Int) < (ss.length : Int) + 1) := by omega
          have hc71 : (w6.setCell ⟨g, 1, none⟩ (.slice a6 (ss.length + 1) c6)).cell? ⟨g, 1, none⟩ = some (.slice a6 (ss.length + 1) c6) := by rw [cell_of_heap HS7.out.blk]; rfl
          have hth := load_there_ref HF.out HZ.out HS7.out (bulkS_load HINV.out hll)
          have hz7 := HS7.out.below.size
          go_wp2_with fail
          refine hth.mono ?_
          rintro e w8 ⟨u8, rfl, ho8, hb8⟩
          obtain ⟨a8, c8, rfl, hc8⟩ := owns_slice_wide ho8
          have HB8 : Hid (Below w.heap.size w w8) := HS7.out.below.trans (hb8.mono hz7)
          have hc81 := cell_later hb8 hc71
          clear hth ho8
          by_cases h30 : 30 < (thereL (ss ++ [l]) []).length
          · have h30i : (30 : Int) < ((thereL (ss ++ [l]) []).length : Int) := by omega
            have HUU : Hid (loadL buf ss packed.data.toList = (4, ss)) := by show loadL _ _ _ = _; rw [HU.out, if_neg hb0, if_pos (Or.inr h30)]
            clear hb8
            go_wp2
            go_ret
            refine ⟨ret_int (by rw [HUU.out]; rfl), ?_, FrameF.of_below HB8.out⟩
            rw [HUU.out]
            exact ref_below HR.out HF.out HB8.out
          · have h30i : ¬ ((30 : Int) < ((thereL (ss ++ [l]) []).length : Int)) := by omega
            have HUU : Hid (loadL buf ss packed.data.toList = (0, ss ++ [l])) := by
              show loadL _ _ _ = _
              rw [HU.out, if_neg hb0, if_neg (by rintro (h | h); exact h6 h; exact h30 h)]
            have hend := load_end HF.out HH.out hFb HEB.out HTT.out HZ.out HS7.out hb8
            have hcb8 : w8.cell? ⟨b, 1, none⟩ = some (.slice aS ss.length cS) := by rw [cell_of_heap hend.1]; rfl
            have hfb8 : w8.frozen? ⟨b, 1, none⟩ = false := frozen_of_heap hend.1 1
            have HEnd : Hid (RefE (w8.setCell ⟨b, 1, none⟩ (.slice a6 (ss.length + 1) c6)) (Grow F w (w8.setCell ⟨b, 1, none⟩ (.slice a6 (ss.length + 1) c6))) b buf (ss ++ [l]) ts ∧ FrameF F w (w8.setCell ⟨b, 1, none⟩ (.slice a6 (ss.length + 1) c6))) := hend.2
            clear hend hb8
            go_wp2
            go_ret
            refine ⟨ret_int (by rw [HUU.out]; rfl), ?_⟩
            rw [HUU.out]
            exact HEnd.out
      · refine wpOp_step (by rfl) fun K' hK' => ?_
        rw [if_pos (by rfl)]
        unfold Oper.wp
        go_simp
        refine hK' _ _ ⟨trivial, ?_⟩
        clear hK'
        refine wpAnyH_all (rs := [4]) (by kernel_rfl) (by simp) ?_
        intro i hi
        simp only [List.mem_singleton] at hi
        subst hi
        refine wpOp_step (by rfl) fun K' hK' => ?_
        rw [if_pos (by rfl)]
        unfold Oper.wp
        go_simp
        refine hK' _ _ ⟨trivial, ?_⟩
        clear hK'
        refine wpAnyH_all (rs := [9]) (by kernel_rfl) (by simp) ?_
        intro i hi
        simp only [List.mem_singleton] at hi
        subst hi
        refine wpOp_step (by rfl) fun K' hK' => ?_
        rw [if_pos (by rfl)]
        refine oper_append_full _ _ _ 118 rfl w.heap.size 75 i8 (.slice none 0 0) 24 Tryz.underlying118 hi8 hy0 hy1 hy2 rfl (.slice none 0 0) 0 [] rfl (World.ownsRow_nil _ _ _ _) _ _ rfl HRS.out HOne.out ?c1 ?c2 ?c3 ?_
        case c1 => rw [HVL.out]; omega
        case c2 => rw [HVL.out]; unfold maxLen; omega
        case c3 => have := HB2.out.size; exact this
        intro v3 w3 hO3 hg3 hl3
        rw [Nat.zero_add, List.nil_append, HVL.out] at hO3
        obtain ⟨a3, c3, rfl, hc3⟩ := owns_slice hO3
        refine hK' _ _ ⟨trivial, ?_⟩
        clear hK'
        have hk3 : w3.heap[g]? = some (.cells #[.slice none 0 0, .slice none 0 0, .slice none 0 0] 120 (0, 0)) := by rw [hg3.block g (heap_lt HK2.out) (by simp [Value.ownBlock])]; exact HK2.out
        have hcw : w3.cell? ⟨g, 1, none⟩ = some (.slice none 0 0) := by rw [cell_of_heap hk3]; rfl
        have hfw : w3.frozen? ⟨g, 1, none⟩ = false := frozen_of_heap hk3 1
        refine wpAnyH_take (i := 10) (v := ?_) rfl (by kernel_rfl) (by kernel_rfl) (by kernel_rfl) (fun _ _ _ h => h) (Or.inl ⟨by rfl, ?_⟩) trivial ?_
        rotate_left
        · rintro w' _; go_simp; first | done | with_reducible rfl
        refine wpAnyH_take (i := 11) (v := ?_) rfl (by kernel_rfl) (by kernel_rfl) (by kernel_rfl) (fun _ _ _ h => h) (Or.inl ⟨by rfl, ?_⟩) trivial ?_
        rotate_left
        · rintro w' _; go_simp; first | done | with_reducible rfl
        refine wpAnyH_all (rs := [12]) (by kernel_rfl) (by simp) ?_
        intro i hi
        simp only [List.mem_singleton] at hi
        subst hi
        refine wpOp_step (by rfl) fun K' hK' => ?_
        rw [if_pos (by rfl)]
        unfold Oper.wp
        go_simp
        refine hK' _ _ ⟨trivial, wpAnyH_done (by kernel_rfl) ?_ _⟩
        clear hK' hcw hfw
        have HS3 := load_first HB2.out HK2.out HLR.out hO3 (show w2.grownBy w3 (Value.slice none 0 0).ownBlock from ⟨hg3.os, hg3.tape, hg3.output, hg3.size, hg3.block⟩) hgz
        obtain ⟨w4, hw4⟩ : ∃ w4, w4 = w3.setCell ⟨g, 1, none⟩ (.slice a3 ss.length c3) := ⟨_, rfl⟩
        rw [← hw4] at HS3 ⊢
        have HS4 : Hid (LoadS w g l (.slice aU l.length cU) w4 (.slice a3 ss.length c3) ss.length vs) := HS3
        clear HS3 hO3 hg3 hl3 hk3 hw4
        have hc41 : w4.cell? ⟨g, 1, none⟩ = some (.slice a3 ss.length c3) := by rw [cell_of_heap HS4.out.blk]; rfl
        have HZ4 := HS4.out.below.size
        go_wp2_with (at_builtin; go_must (refine wpList_append_full _ rfl _ _ 118 rfl w.heap.size 75 i8 (.slice none 0 0) 24 Tryz.underlying118 hi8 hy0 hy1 hy2 rfl _ _ _ rfl (HS4.out.row.alloc _) _ [.slice aU l.length cU] rfl ?k0 ?k9 ?k1 ?k2 ?k3 ?_))
        case k0 => go_light; exact Rd.one (cell_new' rfl)
        case k9 => intro u hu; simp at hu; subst hu; rfl
        case k1 => simp; omega
        case k2 => simp [maxLen]; omega
        case k3 => simp; omega
        intro v6 w6 hO6 hg6 hl6
        obtain ⟨a6, c6, rfl, hc6⟩ := owns_slice hO6
        have HS6 := load_second HS4.out hO6 hg6
        have hc61 : w6.cell? ⟨g, 1, none⟩ = some (.slice a3 ss.length c3) := by rw [cell_of_heap HS6.1]; rfl
        have hf61 : w6.frozen? ⟨g, 1, none⟩ = false := frozen_of_heap HS6.1 1
        have HS7 : Hid (LoadS w g l (.slice aU l.length cU) (w6.setCell ⟨g, 1, none⟩ (.slice a6 (ss.length + 1) c6)) (.slice a6 (ss.length + 1) c6) (ss.length + 1) (vs ++ [.slice aU l.length cU])) := HS6.2
        clear HS6 hO6 hg6 hl6 hc41
        by_cases h6 : 6 < ss.length + 1
        · have h6i : (6 : Int) < (ss.length : Int) + 1 := by omega
          have HUU : Hid (loadL buf ss packed.data.toList = (4, ss)) := by show loadL _ _ _ = _; rw [HU.out, if_neg hb0, if_pos (Or.inl h6)]
          have HBF : Hid (Below w.heap.size w (w6.setCell ⟨g, 1, none⟩ (.slice a6 (ss.length + 1) c6))) := HS7.out.below
          go_wp2
          go_ret
          refine ⟨ret_int (by rw [HUU.out]; rfl), ?_, FrameF.of_below HBF.out⟩
          rw [HUU.out]
          exact ref_below HR.out HF.out HBF.out
        · have h6i : ¬ ((6 : Int) < (ss.length : Int) + 1) := by omega
          have hc71 : (w6.setCell ⟨g, 1, none⟩ (.slice a6 (ss.length + 1) c6)).cell? ⟨g, 1, none⟩ = some (.slice a6 (ss.length + 1) c6) := by rw [cell_of_heap HS7.out.blk]; rfl
          have hth := load_there_ref HF.out HZ.out HS7.out (bulkS_load HINV.out hll)
          have hz7 := HS7.out.below.size
          go_wp2_with fail
          refine hth.mono ?_
          rintro e w8 ⟨u8, rfl, ho8, hb8⟩
          obtain ⟨a8, c8, rfl, hc8⟩ := owns_slice_wide ho8
          have HB8 : Hid (Below w.heap.size w w8) := HS7.out.below.trans (hb8.mono hz7)
          have hc81 := cell_later hb8 hc71
          clear hth ho8
          by_cases h30 : 30 < (thereL (ss ++ [l]) []).length
          · have h30i : (30 : Int) < ((thereL (ss ++ [l]) []).length : Int) := by omega
            have HUU : Hid (loadL buf ss packed.data.toList = (4, ss)) := by show loadL _ _ _ = _; rw [HU.out, if_neg hb0, if_pos (Or.inr h30)]
            clear hb8
            go_wp2
            go_ret
            refine ⟨ret_int (by rw [HUU.out]; rfl), ?_, FrameF.of_below HB8.out⟩
            rw [HUU.out]
            exact ref_below HR.out HF.out HB8.out
          · have h30i : ¬ ((30 : Int) < ((thereL (ss ++ [l]) []).length : Int)) := by omega
            have HUU : Hid (loadL buf ss packed.data.toList = (0, ss ++ [l])) := by
              show loadL _ _ _ = _
              rw [HU.out, if_neg hb0, if_neg (by rintro (h | h); exact h6 h; exact h30 h)]
            have hend := load_end HF.out HH.out hFb HEB.out HTT.out HZ.out HS7.out hb8
            have hcb8 : w8.cell? ⟨b, 1, none⟩ = some (.slice aS ss.length cS) := by rw [cell_of_heap hend.1]; rfl
            have hfb8 : w8.frozen? ⟨b, 1, none⟩ = false := frozen_of_heap hend.1 1
            have HEnd : Hid (RefE (w8.setCell ⟨b, 1, none⟩ (.slice a6 (ss.length + 1) c6)) (Grow F w (w8.setCell ⟨b, 1, none⟩ (.slice a6 (ss.length + 1) c6))) b buf (ss ++ [l]) ts ∧ FrameF F w (w8.setCell ⟨b, 1, none⟩ (.slice a6 (ss.length + 1) c6))) := hend.2
            clear hend hb8
            go_wp2
            go_ret
            refine ⟨ret_int (by rw [HUU.out]; rfl), ?_⟩
            rw [HUU.out]
            exact HEnd.out

end Go.Proofs.YtocbogeoffeolaaGreatDoor

namespace Go.Proofs.YtocbogeoffeolaaGreatDoor
open Go.RowKit

def QSg (w : World) (F : Nat → Prop) (b : Nat) (s : St) : Prop := PE2 w F b s.1 s.2.1 ∧ s.2.2 = []
def RSg (w : World) (F : Nat → Prop) (b : Nat) (s : St) : Prop := RefE w F b s.1 s.2.1 s.2.2 ∧ (∀ k, F k → k < w.heap.size) ∧ Inv s.1 s.2.1

theorem turnsQ {w w' : World} {F : Nat → Prop} {b code : Nat} {buf : List Ent} {ss : List (List Ent)} {ts : List (List Wd)} {e : Ending} (h : TurnsE PE2 w F b code buf ss e w') (ht : ts = []) : TurnsG QSg w F b code (buf, ss, ts) e w' := by
  obtain ⟨h1, F', h2, h3, h4⟩ := h
  exact ⟨h1, F', ⟨h2, ht⟩, h3, h4⟩
theorem turnsR {w w' : World} {F : Nat → Prop} {b code : Nat} {buf : List Ent} {ss : List (List Ent)} {ts : List (List Wd)} {e : Ending} (hF : ∀ k, F k → k < w.heap.size) (hi : Inv buf ss) (h : e = .returned (.int .i64 code) ∧ RefE w' (Grow F w w') b buf ss ts ∧ FrameF F w w') : TurnsG RSg w F b code (buf, ss, ts) e w' := by
  obtain ⟨h1, h2, h3⟩ := h
  have hz := h3.size
  refine ⟨h1, Grow F w w', ⟨h2, fun k hk => ?_, hi⟩, fun k hk => ?_, h3⟩
  · rcases hk with hk | hk
    · have := hF k hk; omega
    · exact hk.2
  · rcases hk with hk | hk
    · exact Or.inl hk
    · exact Or.inr hk.1

theorem progS : ProgN QSg RSg ([], [], []) where
  okq := ⟨fun h => progE.lt h.1, fun h hz hb => ⟨progE.stay h.1 hz hb, h.2⟩⟩
  okr := ⟨fun h => h.2.1, fun h hz hb => ⟨h.1.stay hb, fun k hk => Nat.lt_of_lt_of_le (h.2.1 k hk) hz, h.2.2⟩⟩
  new w := (progE.new w).mono (fun e w' h => by
    obtain ⟨b, F, h1, h2, h3, h4⟩ := h
    exact ⟨b, F, h1, ⟨h2, rfl⟩, h3, h4⟩)
  rnew w b hb hh := by
    refine ⟨⟨vNil, vNil, vNil, hh, rfl, ⟨World.ownsRow_nil _ _ _ _, fun k hk => by simp [vNil, Value.ownBlock] at hk⟩, ⟨[], rfl, World.ownsRow_nil _ _ _ _, fun k hk => by simp [vNil, Value.ownBlock] at hk, fun i hi => by simp at hi⟩, ⟨[], rfl, World.ownsRow_nil _ _ _ _, fun k hk => by simp [vNil, Value.ownBlock] at hk, fun i hi => by simp at hi⟩⟩, fun k hk => ?_, inv_new⟩
    have e : k = b := hk
    omega

theorem bulk_small {buf : List Ent} {ss : List (List Ent)} (h : Inv buf ss) : bulkS ss ≤ 536870912 ∧ buf.length ≤ 536870912 := by
  have h1 := inv_bulk h
  have h2 := inv_buf h
  simp [bulkS] at h1 ⊢
  omega

theorem bothS : BothE QSg RSg where
  x := {
    upsert := fun w F b s name text weight tags h hn ht => (progE.upsert w F b s.1 s.2.1 name text weight tags h.1 hn ht).mono (fun _ _ h' => turnsQ h' h.2)
    delete := fun w F b s name h hn => (progE.delete w F b s.1 s.2.1 name h.1 hn).mono (fun _ _ h' => turnsQ h' h.2)
    flush := fun w F b s h => (progE.flush w F b s.1 s.2.1 h.1).mono (fun _ _ h' => turnsQ h' h.2)
    merge := fun w F b s n h _ _ => (progE.merge w F b s.1 s.2.1 n h.1).mono (fun _ _ h' => turnsQ h' h.2)
    load := fun w F b s packed h hp => (progE.load w F b s.1 s.2.1 packed h.1 hp).mono (fun _ _ h' => turnsQ h' h.2)
    dump := fun w F b s n h _ _ => (progE.dump w F b s.1 s.2.1 n h.1).mono (fun e w' h' => ⟨h'.1, by rw [← h'.2]; exact Below.refl _ _⟩) }
  y := {
    upsert := fun w F b s name text weight tags h hn ht => (refUpsert F b s.1 s.2.1 s.2.2 name text weight tags w h.2.1 h.1 hn ht (bulk_small h.2.2).1 (bulk_small h.2.2).2).mono (fun _ _ h' => turnsR h.2.1 (inv_ups h.2.2 _ _ _ _) h')
    delete := fun w F b s name h hn => (refDelete F b s.1 s.2.1 s.2.2 name w h.2.1 h.1 hn (bulk_small h.2.2).1 (bulk_small h.2.2).2).mono (fun _ _ h' => turnsR h.2.1 (inv_del h.2.2 _) h')
    flush := fun w F b s h => (refFlush F b s.1 s.2.1 s.2.2 w h.2.1 h.1 (bulk_small h.2.2).2).mono (fun _ _ h' => turnsR h.2.1 (inv_flush h.2.2) h')
    merge := fun w F b s n h h0 h1 => (refMerge F b s.1 s.2.1 s.2.2 n w h.2.1 h.1 h0 h1 (bulk_small h.2.2).1).mono (fun _ _ h' => turnsR h.2.1 (inv_merge h.2.2 _) h')
    load := fun w F b s packed h hp => (refLoad F b s.1 s.2.1 s.2.2 packed w h.2.1 h.1 h.2.2 hp).mono (fun _ _ h' => turnsR h.2.1 (inv_load h.2.2 _) h')
    dump := fun w F b s n h _ _ => refDump F b s.1 s.2.1 s.2.2 n w h.1 h.2.2.segs }
  segments w F b s h := progE.segments w F b s.1 s.2.1 h.1
  row h := by
    obtain ⟨⟨vB, vS, vT, hh, _, _, ⟨vs, _, hos, _, _⟩, _⟩, _, _⟩ := h
    obtain ⟨a, c, rfl, _⟩ := owns_slice hos
    exact ⟨a, c, by rw [cell_of_heap hh]; rfl⟩

theorem stepS : StepOK QSg RSg (fun _ => True) 2 8 := by
  intro w0 w B D va vl vm last us ms es M kind W N Mm K S T aL nL cL made _ h h1 hle ho hL hk0 hk1 hbk _ hl hu
  by_cases h5 : kind ≤ 5
  · exact step_edits progS bothS w0 w B D va vl vm last us ms es M kind W N Mm K S T aL nL cL made h h1 hle ho hL hk0 h5 hbk hl hu
  · exact step_packs progS bothS w0 w B D va vl vm last us ms es M kind W N Mm K S T aL nL cL made h h1 hle ho hL (by omega) hk1 hbk hl hu

set_option maxHeartbeats 400000 in
theorem walkSegments (a : Option Addr) (n cap : Nat) (w : World) (hs : ScriptAt2 w a n) (hn : n ≤ 600000) :
    Calls Tryz.prog 3 #[.slice a n cap] w fun e w' => e = .returned (.bool true) ∧ Below w.heap.size w w' := by
  have HC : Hid (Calls Tryz.prog 13 #[.slice a n cap, .int .i64 2, .int .i64 8] w fun e w' => e = .returned (.bool true) ∧ Below w.heap.size w w') := plays_any progS rfl (fun _ => True) 2 8 stepS a n cap w trivial hs hn
  go_enter Tryz.func3, Tryz.ntmps3
  go_wp2_with fail
  refine HC.out.mono ?_
  rintro e w' ⟨rfl, hb⟩
  go_wp2
  go_ret
  exact ⟨rfl, hb⟩

end Go.Proofs.YtocbogeoffeolaaGreatDoor

