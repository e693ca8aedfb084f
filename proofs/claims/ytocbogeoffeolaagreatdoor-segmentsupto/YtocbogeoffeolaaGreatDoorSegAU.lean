/-
  WALKS: the document's own answer: Unpack. (Made by wip/mkunpack.py.)
-/
import Derived.Test.YtocbogeoffeolaaGreatDoorSegAF
import Derived.Test.YtocbogeoffeolaaGreatDoorSegAQ
import Derived.Test.YtocbogeoffeolaaGreatDoorSegAT
namespace Go.Proofs.YtocbogeoffeolaaGreatDoor
open Go.RowKit

/-- How Unpack ends. -/
def UnpD (base : Nat) (e : Ending) (w' : World) : Option (List Ent) → Prop
  | none => ∃ a n c, e = .returned (.tuple #[.slice a n c, .bool false])
  | some l => ∃ a c, e = .returned (.tuple #[.slice a l.length c, .bool true]) ∧ w'.ownsRow base 202 5 (.slice a l.length c) l.length (entVals l)

theorem sound1_iff (l : List Ent) (k : Nat) (nm tx : Wd) (gn : Bool) (wt tg : Int) : sound1 l k ⟨nm, gn, tx, wt, tg⟩ = true ↔ nameB nm = true ∧ queryB tx = true ∧ (gn = true ∨ tx ≠ []) ∧ wt ≤ 1000000 ∧ findI (l.take k) nm = none := by
  unfold sound1
  simp only [Bool.and_eq_true, Bool.or_eq_true, bne_iff_ne, decide_eq_true_eq, Option.isNone_iff_eq_none]
  exact ⟨fun h => ⟨h.1.1.1.1, h.1.1.1.2, h.1.1.2, h.1.2, h.2⟩, fun h => ⟨⟨⟨⟨h.1, h.2.1⟩, h.2.2.1⟩, h.2.2.2.1⟩, h.2.2.2.2⟩⟩
theorem text_sum (A : List Ent) (h : ∀ e ∈ A, e.text.length ≤ 24) (hl : A.length ≤ 1000) : (A.map fun e => e.text.length).sum ≤ 1048576 := by
  have : (A.map fun e => e.text.length).sum ≤ A.length * 24 := by
    clear hl
    induction A with
    | nil => simp
    | cons e A ih =>
      have h1 := h e (by simp)
      have h2 := ih (fun x hx => h x (by simp [hx]))
      rw [List.map_cons, List.sum_cons, List.length_cons]; omega
  omega

set_option maxHeartbeats 20000000 in
set_option maxRecDepth 100000 in
theorem refUnpack (packed : ByteArray) (w : World) (hs : packed.size ≤ maxLen) :
    Calls Tryz.prog 151 #[.string packed] w fun e w' => Below w.heap.size w w' ∧ UnpD w.heap.size e w' (unpackL packed.data.toList) := by
  obtain ⟨i5, hi5, hz0, hz1, hz2⟩ := info_parts Tryz.infoEnt
  have hul := unpack_tape packed.data.toList
  have hpl : packed.data.toList.length = packed.size := by simp
  rw [hpl] at hul
  unfold maxLen at hs
  by_cases h4 : 4000 < packed.size
  · have h4i : (4000 : Int) < (packed.size : Int) := by omega
    have HUN : Hid (unpackL packed.data.toList = none) := by show _ = _; rw [hul, if_pos h4]
    clear hul hpl
    go_enter Tryz.func151, Tryz.ntmps151
    go_wp2
    go_ret2
    refine ⟨Below.refl _ _, ?_⟩
    unfold UnpD
    rw [HUN.out]
    exact ⟨_, _, _, rfl⟩
  · have h4i : ¬ ((4000 : Int) < (packed.size : Int)) := by omega
    rw [if_neg h4] at hul
    have HU : Hid (unpackL packed.data.toList = match (segS packed.data.toList).2.1 with
      | none => none
      | some r => if r ≠ [] ∨ (segS packed.data.toList).2.2.length = 0 ∨ 100 < (segS packed.data.toList).1 ∨ 30 < ((segS packed.data.toList).2.2.length : Int) - (segS packed.data.toList).1 then none
        else if ∀ i, (h : i < (segS packed.data.toList).2.2.length) → sound1 (segS packed.data.toList).2.2 i (segS packed.data.toList).2.2[i] = true then (if packR (segS packed.data.toList).2.2 = packed.data.toList then some (segS packed.data.toList).2.2 else none) else none) := hul
    have hS20 : packed.size ≤ 1048576 := by omega
    have hA0 : TapeA w.heap.size (w.alloc (.cells #[.string packed, .int .i64 0, .bool false, .slice none 0 0] 259)) w.heap.size packed (some packed.data.toList, []) := by
      refine ⟨Nat.le_refl _, by simp, .slice none 0 0, ⟨0, ?_, Nat.zero_le _, fun r h => ?_⟩, World.ownsRow_nil _ _ _ _⟩
      · exact heap_alloc_new w _
      · simp only [Option.some.injEq] at h; rw [← h]; rfl
    have hN1 := tapeA_num w.heap.size w.heap.size packed (some packed.data.toList, []) 1 _ hA0 hS20 (by omega)
    have hs1 := num1_small (some packed.data.toList)
    rcases hx1 : numSt 1 (some packed.data.toList) with ⟨n, t1⟩
    rw [hx1] at hN1 hs1
    simp only at hN1 hs1
    have HX1 : Hid (numSt 1 (some packed.data.toList) = (n, t1)) := hx1
    have hrm0 : roomS (t1, ([] : List Ent)) ≤ 100000 := by
      have h1 := left_num 1 (some packed.data.toList)
      rw [hx1] at h1
      have h2 : leftS (some packed.data.toList) = packed.size + 1 := by show packed.data.toList.length + 1 = _; rw [hpl]
      unfold roomS
      simp only [List.length_nil] at h1 ⊢
      omega
    have HB0 : Hid (Below w.heap.size w (w.alloc (.cells #[.string packed, .int .i64 0, .bool false, .slice none 0 0] 259))) := (Below.refl _ _).alloc (Nat.le_refl _) _
    clear hul hpl hx1 hA0
    go_enter Tryz.func151, Tryz.ntmps151
    go_wp2_with fail
    refine hN1.mono ?_
    rintro e w1 ⟨rfl, hT1, hb1⟩
    have HA1 : Hid (TapeA w.heap.size w1 w.heap.size packed (t1, [])) := hT1
    have HB1 : Hid (Below w.heap.size w w1) := HB0.out.trans hb1
    obtain ⟨D, hD⟩ : ∃ D, D = goneS n (t1, []) := ⟨_, rfl⟩
    have HD : Hid (D = goneS n (t1, [])) := hD
    clear hN1 hT1 hb1 hD HB0
    go_wp2_with fail
    go_loopw [6] (fun i wr => ∃ (k : Nat) (s' : TapeS), k ≤ n ∧ i = .int .i64 k ∧ goneS (n - k) s' = D ∧ TapeA w.heap.size wr w.heap.size packed s' ∧ Below w.heap.size w wr ∧ roomS s' ≤ 100000) (fun i _ => n - (intOf i).toNat)
    case atStart => exact ⟨0, _, Nat.zero_le _, rfl, HD.out.symm, HA1.out, HB1.out, hrm0⟩
    case round =>
      obtain ⟨k, s', hk, rfl, hent, hT0, hB0, hrS⟩ := hrel
      have hbad := hT0.bad
      have HEN : Hid (goneS (n - k) s' = D) := hent
      have HBB0 : Hid (Below w.heap.size w wr) := hB0
      clear hent hB0
      by_cases hlt : k < n
      · have hlti : (k : Int) < (n : Int) := by omega
        rcases s' with ⟨u0, A⟩
        cases u0 with
        | none =>
          obtain ⟨A0, hA0e⟩ : ∃ A0, A0 = A := ⟨_, rfl⟩
          subst hA0e
          simp only [Option.isNone_none] at hbad
          have hDe : D = (none, A0) := by rw [← HEN.out, gone_bad]
          have hTD : TapeA w.heap.size wr w.heap.size packed D := by rw [hDe]; exact hT0
          have hrmD : roomS D ≤ 100000 := by rw [hDe]; exact hrS
          have HDE : Hid (D = (none, A0)) := hDe
          clear hDe hT0
          have hcall := tapeTree w.heap.size w.heap.size packed hS20 32 0 D wr hTD rfl (by omega) hrmD
          have HDD : Hid (segS packed.data.toList = (n, treeS 32 0 D)) := by
            show segS _ = _
            unfold segS
            rw [HX1.out]
            simp only
            rw [← HD.out]
          clear hTD
          go_wp2_with fail
          refine hcall.mono ?_
          rintro e x1 ⟨rfl, hT1, hbx1⟩
          have HBN : Hid (Below w.heap.size w x1) := HBB0.out.trans hbx1
          clear hcall hbx1 HBB0
          rcases hE : treeS 32 0 D with ⟨st, A⟩
          have HSE : Hid (treeS 32 0 D = (st, A)) := hE
          rw [hE] at hT1
          have HSG : Hid (segS packed.data.toList = (n, st, A)) := by show segS _ = _; rw [HDD.out, hE]
          have HOT : Hid (∀ e ∈ A, okT e) := by
            have h := ok_seg packed.data.toList
            rw [HSG.out] at h
            exact h
          have hrA : A.length ≤ 100000 := by
            have h1 := room_tree 32 0 D
            rw [hE] at h1
            have h2 : roomS (st, A) = A.length + leftS st := rfl
            omega
          clear hE HDD
          obtain ⟨q1, q2, vA, ⟨pp, hh, hpp, hdr⟩, hown⟩ := hT1
          obtain ⟨aA, cA, rfl, hcA⟩ := owns_slice_wide hown
          have hc1 : x1.cell? ⟨w.heap.size, 1, none⟩ = some (.int .i64 pp) := by rw [cell_of_heap hh]; rfl
          have hc2 : x1.cell? ⟨w.heap.size, 2, none⟩ = some (.bool st.isNone) := by rw [cell_of_heap hh]; rfl
          have hc3 : x1.cell? ⟨w.heap.size, 3, none⟩ = some (.slice aA A.length cA) := by rw [cell_of_heap hh]; rfl
          have HOW : Hid (x1.ownsRow w.heap.size 202 5 (.slice aA A.length cA) A.length (entVals A)) := hown
          have HRD : Hid (RdW x1 5 (.slice aA A.length cA) A.length (entVals A)) := RdW.of_owns hown
          have HCM : Hid (cA ≤ 9223372036854775807) := by
            obtain ⟨a', c', he, _, hm, _⟩ := HRD.out
            simp only [Value.slice.injEq] at he
            unfold maxLen at hm
            have := he.2.2
            show cA ≤ _
            omega
          clear hh hown
          have hst : st = none := by
            have h := tree_bad 32 0 A0
            rw [← HDE.out] at h
            rw [HSE.out] at h
            exact h
          subst hst
          simp only [Option.isNone_none] at hc2
          have HUN : Hid (unpackL packed.data.toList = none) := by
            show _ = _
            rw [HU.out]
            rw [HSG.out]
          go_wp2
          go_ret2
          refine ⟨HBN.out, ?_⟩
          unfold UnpD
          rw [HUN.out]
          exact ⟨_, _, _, rfl⟩
        | some r =>
          simp only [Option.isNone_some] at hbad
          have hM0 := tapeA_num w.heap.size w.heap.size packed ((some r), A) 1 wr hT0 hS20 (by omega)
          have hr0 := num1_small (some r)
          rcases hy0 : numSt 1 (some r) with ⟨a1, u1⟩
          rw [hy0] at hM0 hr0
          simp only at hM0 hr0
          clear hT0
          go_wp2_with fail
          refine hM0.mono ?_
          rintro e v1 ⟨rfl, hT1, hbb0⟩
          have HBB1 : Hid (Below w.heap.size w v1) := HBB0.out.trans hbb0
          clear hM0 hbb0 HBB0
          have hM1 := tapeA_take w.heap.size w.heap.size packed (u1, A) a1 v1 hT1 hS20 (by omega)
          rcases hy1 : takeS a1 u1 with ⟨c2, u2⟩
          rw [hy1] at hM1
          simp only at hM1
          clear hT1
          go_wp2_with fail
          refine hM1.mono ?_
          rintro e v6 ⟨rfl, hT6, hbb1⟩
          have HBB6 : Hid (Below w.heap.size w v6) := HBB1.out.trans hbb1
          clear hM1 hbb1 HBB1
          have HY : Hid (oneG (some r, A) = (u2, A ++ [⟨c2, true, [], 0, 0⟩])) := by
            show oneG _ = _
            unfold oneG textSt
            simp only [hy0, hy1]
          obtain ⟨q1, q2, vA, ⟨pp, hh, hpp, hdr⟩, hown⟩ := id hT6
          obtain ⟨aA, cA, rfl, hcA⟩ := owns_slice_wide hown
          have hc3 : v6.cell? ⟨w.heap.size, 3, none⟩ = some (.slice aA A.length cA) := by rw [cell_of_heap hh]; rfl
          have hal : A.length ≤ 100000 := by unfold roomS at hrS; simp only at hrS; omega
          have HOW : Hid (v6.ownsRow w.heap.size 202 5 (.slice aA A.length cA) A.length (entVals A)) := hown
          have HHH : Hid (v6.heap[w.heap.size]? = some (.cells #[.string packed, .int .i64 pp, .bool u2.isNone, .slice aA A.length cA] 259 (0, 0))) := hh
          have HDR : Hid (∀ r', u2 = some r' → packed.data.toList.drop pp = r') := hdr
          clear hT6 hh hown hy0 hy1 hdr
          go_wp2_with (at_builtin; go_must (refine wpList_append_w _ rfl _ _ 75 rfl w.heap.size 202 i5 _ 5 56 Tryz.underlying75 hi5 hz0 hz1 hz2 rfl (by decide) _ _ _ rfl (HOW.out.alloc _) _ 1 (entCells ⟨c2, true, [], 0, 0⟩) rfl ?cr ?c0 ?c1 ?c2 ?c3 ?_))
          case cr => exact rdw5 rfl
          case c0 => intro u hu; simp [entCells] at hu; rcases hu with rfl | rfl | rfl | rfl | rfl <;> rfl
          case c1 => omega
          case c2 => unfold maxLen; omega
          case c3 => simp; omega
          intro v7 w7 hO7 hg7 _
          obtain ⟨a7, c7, rfl, hc7⟩ := owns_slice_wide hO7
          have hBl : w.heap.size < v6.heap.size := (Array.getElem?_eq_some_iff.1 HHH.out).1
          have hk7 : w7.heap[w.heap.size]? = some (.cells #[.string packed, .int .i64 pp, .bool u2.isNone, .slice aA A.length cA] 259 (0, 0)) := by
            rw [hg7.block w.heap.size (by simp; omega) (fun e => blk_ne_wide HHH.out HOW.out (by decide) e.symm), Below.heap_alloc _ _ _ hBl]
            exact HHH.out
          have hc3' : w7.cell? ⟨w.heap.size, 3, none⟩ = some (.slice aA A.length cA) := by rw [cell_of_heap hk7]; rfl
          have hf3' : w7.frozen? ⟨w.heap.size, 3, none⟩ = false := frozen_of_heap hk7 3
          have HB7 : Hid (Below w.heap.size w w7) := ((HBB6.out.trans ((Below.refl w.heap.size v6).alloc q2 _))).trans ⟨hg7.os, hg7.tape, hg7.output, hg7.size, fun j hj => hg7.block j (by simp; omega) (fun e => by have := (HOW.out.lt j e.symm).1; omega)⟩
          have HK7 : Hid (w7.heap[w.heap.size]? = some (.cells #[.string packed, .int .i64 pp, .bool u2.isNone, .slice aA A.length cA] 259 (0, 0))) := hk7
          have HO7 : Hid (w7.ownsRow w.heap.size 202 5 (.slice a7 (A.length + 1) c7) (A.length + 1) (entVals A ++ entCells ⟨c2, true, [], 0, 0⟩)) := hO7
          have hz7 : w.heap.size ≤ w7.heap.size := by have := hg7.size; simp at this; omega
          clear hO7 hg7 hk7 hc3
          go_wp2
          go_roundw
          case rel =>
            refine ⟨k + 1, oneG (some r, A), by omega, by go_num, ?_, ?_, ?_, Nat.le_trans (room_oneG (by simp)) hrS⟩
            · have := HEN.out
              rw [show n - k = (n - (k + 1)) + 1 by omega] at this
              simpa [goneS] using this
            · rw [HY.out]
              refine ⟨q1, by simp [World.setCell]; omega, .slice a7 (A.length + 1) c7, ⟨pp, by rw [heap_set HK7.out]; rfl, hpp, HDR.out⟩, ?_⟩
              have e1 : entVals (A ++ [⟨c2, true, [], 0, 0⟩]) = entVals A ++ entCells ⟨c2, true, [], 0, 0⟩ := by simp [entVals]
              simp only [e1, List.length_append, List.length_cons, List.length_nil]
              exact owns_stay_wide HO7.out (fun j hj => Below.heap_setCell _ _ _ _ (fun e => blk_ne_wide HK7.out HO7.out (by decide) (by rw [hj, e])))
            · exact Below.setCell HB7.out q1 _
          case measure => simp [intOf]; omega
      · have hDe : D = s' := by rw [← HEN.out, show n - k = 0 by omega]; rfl
        have hTD : TapeA w.heap.size wr w.heap.size packed D := by rw [hDe]; exact hT0
        have hrmD : roomS D ≤ 100000 := by rw [hDe]; exact hrS
        have hlti : ¬ (k : Int) < (n : Int) := by omega
        clear hDe hT0
        have hcall := tapeTree w.heap.size w.heap.size packed hS20 32 0 D wr hTD rfl (by omega) hrmD
        have HDD : Hid (segS packed.data.toList = (n, treeS 32 0 D)) := by
          show segS _ = _
          unfold segS
          rw [HX1.out]
          simp only
          rw [← HD.out]
        clear hTD
        go_wp2_with fail
        refine hcall.mono ?_
        rintro e x1 ⟨rfl, hT1, hbx1⟩
        have HBN : Hid (Below w.heap.size w x1) := HBB0.out.trans hbx1
        clear hcall hbx1 HBB0
        rcases hE : treeS 32 0 D with ⟨st, A⟩
        rw [hE] at hT1
        have HSG : Hid (segS packed.data.toList = (n, st, A)) := by show segS _ = _; rw [HDD.out, hE]
        have HOT : Hid (∀ e ∈ A, okT e) := by
          have h := ok_seg packed.data.toList
          rw [HSG.out] at h
          exact h
        have hrA : A.length ≤ 100000 := by
          have h1 := room_tree 32 0 D
          rw [hE] at h1
          have h2 : roomS (st, A) = A.length + leftS st := rfl
          omega
        clear hE HDD
        obtain ⟨q1, q2, vA, ⟨pp, hh, hpp, hdr⟩, hown⟩ := hT1
        obtain ⟨aA, cA, rfl, hcA⟩ := owns_slice_wide hown
        have hc1 : x1.cell? ⟨w.heap.size, 1, none⟩ = some (.int .i64 pp) := by rw [cell_of_heap hh]; rfl
        have hc2 : x1.cell? ⟨w.heap.size, 2, none⟩ = some (.bool st.isNone) := by rw [cell_of_heap hh]; rfl
        have hc3 : x1.cell? ⟨w.heap.size, 3, none⟩ = some (.slice aA A.length cA) := by rw [cell_of_heap hh]; rfl
        have HOW : Hid (x1.ownsRow w.heap.size 202 5 (.slice aA A.length cA) A.length (entVals A)) := hown
        have HRD : Hid (RdW x1 5 (.slice aA A.length cA) A.length (entVals A)) := RdW.of_owns hown
        have HCM : Hid (cA ≤ 9223372036854775807) := by
          obtain ⟨a', c', he, _, hm, _⟩ := HRD.out
          simp only [Value.slice.injEq] at he
          unfold maxLen at hm
          have := he.2.2
          show cA ≤ _
          omega
        clear hh hown
        cases st with
        | none =>
          simp only [Option.isNone_none] at hc2
          have HUN : Hid (unpackL packed.data.toList = none) := by
            show _ = _
            rw [HU.out]
            rw [HSG.out]
          go_wp2
          go_ret2
          refine ⟨HBN.out, ?_⟩
          unfold UnpD
          rw [HUN.out]
          exact ⟨_, _, _, rfl⟩
        | some r =>
          simp only [Option.isNone_some] at hc2
          have hr := hdr r rfl
          have HU2 : Hid (unpackL packed.data.toList = if r ≠ [] ∨ A.length = 0 ∨ 100 < n ∨ 30 < (A.length : Int) - n then none else if ∀ i, (h : i < A.length) → sound1 A i A[i] = true then (if packR A = packed.data.toList then some A else none) else none) := by
            show _ = _
            rw [HU.out, HSG.out]
          have hrl : r.length = packed.size - pp := by rw [← hr]; simp
          clear hdr hr
          by_cases hr0 : r = []
          · have hppe : pp = packed.size := by
              have : r.length = 0 := by rw [hr0]; rfl
              omega
            subst hppe
            clear hrl
            by_cases hA0 : A.length = 0
            · have hA0i : (A.length : Int) = 0 := by omega
              have HUN : Hid (unpackL packed.data.toList = none) := by
                show _ = _
                rw [HU2.out, if_pos (Or.inr (Or.inl hA0))]
              go_wp2
              go_ret2
              refine ⟨HBN.out, ?_⟩
              unfold UnpD
              rw [HUN.out]
              exact ⟨_, _, _, rfl⟩
            · have hA0i : ¬ ((A.length : Int) = 0) := by omega
              have hA0b : ((A.length : Int) == 0) = false := by simpa using hA0i
              by_cases hn1 : 100 < n
              · have hn1i : (100 : Int) < (n : Int) := by omega
                have HUN : Hid (unpackL packed.data.toList = none) := by
                  show _ = _
                  rw [HU2.out, if_pos (Or.inr (Or.inr (Or.inl hn1)))]
                go_wp2
                go_ret2
                refine ⟨HBN.out, ?_⟩
                unfold UnpD
                rw [HUN.out]
                exact ⟨_, _, _, rfl⟩
              · have hn1i : ¬ ((100 : Int) < (n : Int)) := by omega
                by_cases h30 : 30 < (A.length : Int) - n
                · skip
                  have HUN : Hid (unpackL packed.data.toList = none) := by
                    show _ = _
                    rw [HU2.out, if_pos (Or.inr (Or.inr (Or.inr h30)))]
                  go_wp2
                  go_ret2
                  refine ⟨HBN.out, ?_⟩
                  unfold UnpD
                  rw [HUN.out]
                  exact ⟨_, _, _, rfl⟩
                · have HU3 : Hid (unpackL packed.data.toList = if ∀ i, (h : i < A.length) → sound1 A i A[i] = true then (if packR A = packed.data.toList then some A else none) else none) := by
                    show _ = _
                    rw [HU2.out, if_neg (fun h => ?_)]
                    rcases h with h | h | h | h
                    · exact h hr0
                    · exact hA0 h
                    · exact hn1 h
                    · exact h30 h
                  go_wp2
                  go_loopw [8] (fun iv wr => ∃ k : Nat, k ≤ A.length ∧ iv = .int .i64 k ∧ soundTo A k ∧ Ext x1 wr) (fun i _ => A.length - (intOf i).toNat)
                  case atStart => exact ⟨0, Nat.zero_le _, rfl, fun i h hi => by omega, Ext.refl _⟩
                  case round =>
                    obtain ⟨k, hk, rfl, hsnd, hext⟩ := hrel
                    have HSN : Hid (soundTo A k) := hsnd
                    have HEX : Hid (Ext x1 wr) := hext
                    have hc3w := cell_later hext hc3
                    clear hsnd
                    by_cases hlt : k < A.length
                    · have hki : (k : Int) < (A.length : Int) := by omega
                      obtain ⟨b, off, rfl, c0, c1, c2, c3, c4⟩ := ent_cells (HRD.out.below hext) k hlt
                      obtain ⟨o1, o2, ⟨o3, o4⟩, o5, o6⟩ := HOT.out A[k] (List.getElem_mem hlt)
                      rcases hxk : A[k] with ⟨nm, gn, tx, wt, tg⟩
                      rw [hxk] at c0 c1 c2 c3 c4 o1 o2 o3 o4 o5 o6
                      simp only at c0 c1 c2 c3 c4 o1 o2 o3 o4 o5 o6
                      have HXK : Hid (A[k] = ⟨nm, gn, tx, wt, tg⟩) := hxk
                      clear hxk
                      obtain ⟨nb, hnb⟩ : ∃ nb : ByteArray, nb = ⟨nm.toArray⟩ := ⟨_, rfl⟩
                      obtain ⟨tb, htb⟩ : ∃ tb : ByteArray, tb = ⟨tx.toArray⟩ := ⟨_, rfl⟩
                      rw [← hnb] at c0
                      rw [← htb] at c2
                      have hn1 : nb.size ≤ maxLen := by rw [hnb]; show nm.toArray.size ≤ _; unfold maxLen; simp; omega
                      have hn2 : tb.size ≤ maxLen := by rw [htb]; show tx.toArray.size ≤ _; unfold maxLen; simp; omega
                      obtain ⟨bn, hbn⟩ : ∃ bn, bn = nameB nm := ⟨_, rfl⟩
                      obtain ⟨bq, hbq⟩ : ∃ bq, bq = queryB tx := ⟨_, rfl⟩
                      obtain ⟨fv, hfv0⟩ : ∃ fv, fv = findV (findI (A.take k) nm) := ⟨_, rfl⟩
                      have HCN : Hid (∀ y : World, Calls Tryz.prog 141 #[.string nb] y fun e w' => e = .returned (.bool bn) ∧ y = w') := fun y => by
                        have h := isName_any nb y hn1
                        rw [hbn]; rw [hnb] at h ⊢; exact h
                      have HCQ : Hid (∀ y : World, Calls Tryz.prog 142 #[.string tb] y fun e w' => e = .returned (.bool bq) ∧ y = w') := fun y => by
                        have h := isQuery_any tb y hn2
                        rw [hbq]; rw [htb] at h ⊢; exact h
                      have HFC : Hid (∀ y : World, Ext x1 y → Calls Tryz.prog 144 #[.slice (some ⟨b, off, none⟩) k cA, .string nb] y fun e w' => e = .returned (.int .i64 fv) ∧ y = w') := fun y hy => by
                        have h0 := (HRD.out.below hy).takeE k (by omega) rfl
                        have e : (A.take k).length = k := by rw [List.length_take]; omega
                        have h := find_any (.slice (some ⟨b, off, none⟩) k cA) (A.take k) nm y (by rw [e]; exact h0)
                        rw [hfv0, hnb]; exact h
                      have HNB : Hid (bn = nameB nm) := hbn
                      have HQB : Hid (bq = queryB tx) := hbq
                      have HFV : Hid (fv = findV (findI (A.take k) nm)) := hfv0
                      have HTB : Hid (tb = ⟨tx.toArray⟩) := htb
                      have HFD : True := trivial
                      have hkcN : k ≤ cA := by omega
                      have hkcI : (k : Int) ≤ (cA : Int) := by omega
                      have hcAm : cA ≤ 9223372036854775807 := HCM.out
                      clear hext hnb htb hbn hbq hfv0
                      go_wp2_with fail
                      refine (HCN.out _).mono ?_
                      rintro e w' ⟨rfl, rfl⟩
                      go_wp2_with fail
                      refine (HCQ.out _).mono ?_
                      rintro e w' ⟨rfl, rfl⟩
                      have hX : Ext wr (wr.alloc (.cells #[.string nb, .bool gn, .string tb, .int .i64 wt, .int .i64 tg] 202)) := Ext.alloc _ _
                      have d0 : (wr.alloc (.cells #[.string nb, .bool gn, .string tb, .int .i64 wt, .int .i64 tg] 202)).cell? ⟨wr.heap.size, 0, none⟩ = some (.string nb) := by rw [World.cell?_alloc_at _ _ _ _ rfl]; rfl
                      have d1 : (wr.alloc (.cells #[.string nb, .bool gn, .string tb, .int .i64 wt, .int .i64 tg] 202)).cell? ⟨wr.heap.size, 1, none⟩ = some (.bool gn) := by rw [World.cell?_alloc_at _ _ _ _ rfl]; rfl
                      have d2 : (wr.alloc (.cells #[.string nb, .bool gn, .string tb, .int .i64 wt, .int .i64 tg] 202)).cell? ⟨wr.heap.size, 2, none⟩ = some (.string tb) := by rw [World.cell?_alloc_at _ _ _ _ rfl]; rfl
                      have d3 : (wr.alloc (.cells #[.string nb, .bool gn, .string tb, .int .i64 wt, .int .i64 tg] 202)).cell? ⟨wr.heap.size, 3, none⟩ = some (.int .i64 wt) := by rw [World.cell?_alloc_at _ _ _ _ rfl]; rfl
                      have d9 := cell_later hX hc3w
                      have HEW : Hid (Ext x1 (wr.alloc (.cells #[.string nb, .bool gn, .string tb, .int .i64 wt, .int .i64 tg] 202))) := HEX.out.trans hX
                      clear hX c0 c1 c2 c3 c4 hc3w HCN HCQ HEX hn1 hn2 o1 o2 o3 o4 o5 o6
                      generalize (wr.alloc (.cells #[.string nb, .bool gn, .string tb, .int .i64 wt, .int .i64 tg] 202)) = wx at *
                      generalize wr.heap.size = g at *
                      have HFQ : Hid (∀ m, Calls Tryz.prog 144 #[.slice (some ⟨b, off, none⟩) k cA, .string nb] (wx.drewN m) fun e w' => e = .returned (.int .i64 fv) ∧ w' = wx.drewN m) := fun m => (HFC.out _ (below_dn HEW.out m)).mono (fun e w' h => ⟨h.1, h.2.symm⟩)
                      clear HFC
                      cases bn with
                      | false =>
                        have HUN : Hid (unpackL packed.data.toList = none) := by
                          show _ = _
                          rw [HU3.out, if_neg (fun h => ?_)]
                          have h1 := h k hlt
                          rw [HXK.out, sound1_iff] at h1
                          rw [← HNB.out] at h1; exact absurd h1.1 (by simp)
                        clear HFD HSN HU3
                        go_wp2
                        go_quiet (first | (go_at_call 144; exact Calls.quiet_of_same (HFQ.out _)))
                        go_wp2
                        go_ret2
                        refine ⟨below_dn (HBN.out.trans (Below.mono HEW.out HBN.out.size)) nq, ?_⟩
                        unfold UnpD
                        rw [HUN.out]
                        exact ⟨_, _, _, rfl⟩
                      | true =>
                        have HNM : Hid (nameB nm = true) := HNB.out.symm
                        cases bq with
                        | false =>
                          have HUN : Hid (unpackL packed.data.toList = none) := by
                            show _ = _
                            rw [HU3.out, if_neg (fun h => ?_)]
                            have h1 := h k hlt
                            rw [HXK.out, sound1_iff] at h1
                            rw [← HQB.out] at h1; exact absurd h1.2.1 (by simp)
                          clear HFD HSN HU3
                          go_wp2
                          go_quiet (first | (go_at_call 144; exact Calls.quiet_of_same (HFQ.out _)))
                          go_wp2
                          go_ret2
                          refine ⟨below_dn (HBN.out.trans (Below.mono HEW.out HBN.out.size)) nq, ?_⟩
                          unfold UnpD
                          rw [HUN.out]
                          exact ⟨_, _, _, rfl⟩
                        | true =>
                          have HQR : Hid (queryB tx = true) := HQB.out.symm
                          rcases hgn0 : gn with _ | _
                          · have HGA : Hid (gn = false) := hgn0
                            by_cases htx : tx = []
                            · have hte : tb.toList.isEmpty = true := by rw [ByteArray.toList_eq, HTB.out, htx]; rfl
                              subst hgn0
                              have HUN : Hid (unpackL packed.data.toList = none) := by
                                show _ = _
                                rw [HU3.out, if_neg (fun h => ?_)]
                                have h1 := h k hlt
                                rw [HXK.out, sound1_iff] at h1
                                exact h1.2.2.1.elim (fun h2 => by cases h2) (fun h2 => h2 htx)
                              clear HFD HSN HU3
                              go_wp2
                              go_quiet (first | (go_at_call 144; exact Calls.quiet_of_same (HFQ.out _)))
                              go_wp2
                              go_ret2
                              refine ⟨below_dn (HBN.out.trans (Below.mono HEW.out HBN.out.size)) nq, ?_⟩
                              unfold UnpD
                              rw [HUN.out]
                              exact ⟨_, _, _, rfl⟩
                            · have hte : tb.toList.isEmpty = false := by
                                rw [ByteArray.toList_eq, HTB.out]
                                cases tx with
                                | nil => exact absurd rfl htx
                                | cons x t => rfl
                              have HGT : Hid (gn = true ∨ tx ≠ []) := Or.inr htx
                              clear hgn0 htx
                              by_cases hwt : 1000000 < wt
                              · have hgn : gn = false := HGA.out
                                subst hgn
                                have HUN : Hid (unpackL packed.data.toList = none) := by
                                  show _ = _
                                  rw [HU3.out, if_neg (fun h => ?_)]
                                  have h1 := h k hlt
                                  rw [HXK.out, sound1_iff] at h1
                                  omega
                                clear HFD HSN HU3
                                go_wp2
                                go_quiet (first | (go_at_call 144; exact Calls.quiet_of_same (HFQ.out _)))
                                go_wp2
                                go_ret2
                                refine ⟨below_dn (HBN.out.trans (Below.mono HEW.out HBN.out.size)) nq, ?_⟩
                                unfold UnpD
                                rw [HUN.out]
                                exact ⟨_, _, _, rfl⟩
                              · rcases hfi : findI (A.take k) nm with _ | fi
                                · have hfv : fv = -1 := by rw [HFV.out, hfi]; rfl
                                  have HOKX : Hid (nameB nm = true ∧ queryB tx = true ∧ (gn = true ∨ tx ≠ []) ∧ wt ≤ 1000000 ∧ findI (A.take k) nm = none) := ⟨HNM.out, HQR.out, HGT.out, by omega, hfi⟩
                                  subst hfv
                                  clear hfi
                                  have hgn : gn = false := HGA.out
                                  subst hgn
                                  have HSO : Hid (soundTo A (k + 1)) := by
                                    intro i h hi
                                    rcases Nat.lt_or_ge i k with h1 | h1
                                    · exact HSN.out i h h1
                                    · have e : i = k := by omega
                                      subst e
                                      rw [HXK.out, sound1_iff]
                                      exact HOKX.out
                                  clear HFD HSN
                                  go_wp2
                                  go_quiet (first | (go_at_call 144; exact Calls.quiet_of_same (HFQ.out _)))
                                  go_wp2
                                  go_roundw
                                  case rel => exact ⟨k + 1, by omega, by go_num, HSO.out, below_dn HEW.out nq⟩
                                  case measure => simp [intOf]; omega
                                · have hfv : fv = (fi : Int) := by rw [HFV.out, hfi]; rfl
                                  subst hfv
                                  have hfi0 : (0 : Int) ≤ (fi : Int) := by omega
                                  have HFI : Hid (findI (A.take k) nm = some fi) := hfi
                                  clear hfi
                                  have hgn : gn = false := HGA.out
                                  subst hgn
                                  have HUN : Hid (unpackL packed.data.toList = none) := by
                                    show _ = _
                                    rw [HU3.out, if_neg (fun h => ?_)]
                                    have h1 := h k hlt
                                    rw [HXK.out, sound1_iff] at h1
                                    rw [HFI.out] at h1; exact absurd h1.2.2.2.2 (by simp)
                                  clear HFD HSN HU3
                                  go_wp2
                                  go_quiet (first | (go_at_call 144; exact Calls.quiet_of_same (HFQ.out _)))
                                  go_wp2
                                  go_ret2
                                  refine ⟨below_dn (HBN.out.trans (Below.mono HEW.out HBN.out.size)) nq, ?_⟩
                                  unfold UnpD
                                  rw [HUN.out]
                                  exact ⟨_, _, _, rfl⟩
                          · have HGA : Hid (gn = true) := hgn0
                            have HGT : Hid (gn = true ∨ tx ≠ []) := Or.inl hgn0
                            clear hgn0
                            by_cases hwt : 1000000 < wt
                            · have hgn : gn = true := HGA.out
                              subst hgn
                              have HUN : Hid (unpackL packed.data.toList = none) := by
                                show _ = _
                                rw [HU3.out, if_neg (fun h => ?_)]
                                have h1 := h k hlt
                                rw [HXK.out, sound1_iff] at h1
                                omega
                              clear HFD HSN HU3
                              go_wp2
                              go_quiet (first | (go_at_call 144; exact Calls.quiet_of_same (HFQ.out _)))
                              go_wp2
                              go_ret2
                              refine ⟨below_dn (HBN.out.trans (Below.mono HEW.out HBN.out.size)) nq, ?_⟩
                              unfold UnpD
                              rw [HUN.out]
                              exact ⟨_, _, _, rfl⟩
                            · rcases hfi : findI (A.take k) nm with _ | fi
                              · have hfv : fv = -1 := by rw [HFV.out, hfi]; rfl
                                have HOKX : Hid (nameB nm = true ∧ queryB tx = true ∧ (gn = true ∨ tx ≠ []) ∧ wt ≤ 1000000 ∧ findI (A.take k) nm = none) := ⟨HNM.out, HQR.out, HGT.out, by omega, hfi⟩
                                subst hfv
                                clear hfi
                                have hgn : gn = true := HGA.out
                                subst hgn
                                have HSO : Hid (soundTo A (k + 1)) := by
                                  intro i h hi
                                  rcases Nat.lt_or_ge i k with h1 | h1
                                  · exact HSN.out i h h1
                                  · have e : i = k := by omega
                                    subst e
                                    rw [HXK.out, sound1_iff]
                                    exact HOKX.out
                                clear HFD HSN
                                go_wp2
                                go_quiet (first | (go_at_call 144; exact Calls.quiet_of_same (HFQ.out _)))
                                go_wp2
                                go_roundw
                                case rel => exact ⟨k + 1, by omega, by go_num, HSO.out, below_dn HEW.out nq⟩
                                case measure => simp [intOf]; omega
                              · have hfv : fv = (fi : Int) := by rw [HFV.out, hfi]; rfl
                                subst hfv
                                have hfi0 : (0 : Int) ≤ (fi : Int) := by omega
                                have HFI : Hid (findI (A.take k) nm = some fi) := hfi
                                clear hfi
                                have hgn : gn = true := HGA.out
                                subst hgn
                                have HUN : Hid (unpackL packed.data.toList = none) := by
                                  show _ = _
                                  rw [HU3.out, if_neg (fun h => ?_)]
                                  have h1 := h k hlt
                                  rw [HXK.out, sound1_iff] at h1
                                  rw [HFI.out] at h1; exact absurd h1.2.2.2.2 (by simp)
                                clear HFD HSN HU3
                                go_wp2
                                go_quiet (first | (go_at_call 144; exact Calls.quiet_of_same (HFQ.out _)))
                                go_wp2
                                go_ret2
                                refine ⟨below_dn (HBN.out.trans (Below.mono HEW.out HBN.out.size)) nq, ?_⟩
                                unfold UnpD
                                rw [HUN.out]
                                exact ⟨_, _, _, rfl⟩
                    · have hke : k = A.length := by omega
                      subst hke
                      have HSA : Hid (unpackL packed.data.toList = if packR A = packed.data.toList then some A else none) := by
                        show _ = _
                        rw [HU3.out, if_pos (fun i h => HSN.out i h h)]
                      have HSM : Hid (∀ e ∈ A, rawOk e ∧ e.text.length ≤ 24) := fun e he => by
                        obtain ⟨i, hi, rfl⟩ := List.mem_iff_getElem.1 he
                        obtain ⟨o1, o2, ⟨o3, o4⟩, o5, o6⟩ := HOT.out A[i] he
                        refine ⟨⟨by omega, by omega, ⟨by omega, by omega⟩, by omega, by omega⟩, ?_⟩
                        have h1 := HSN.out i hi hi
                        rcases hxk : A[i] with ⟨nm, gn, tx, wt, tg⟩
                        rw [hxk, sound1_iff] at h1
                        have h2 := h1.2.1
                        simp only [queryB, Bool.and_eq_true, decide_eq_true_eq] at h2
                        exact h2.1
                      have hAl : A.length ≤ 1000 := by omega
                      obtain ⟨pk, hpk⟩ : ∃ pk : ByteArray, pk = ⟨(packR A).toArray⟩ := ⟨_, rfl⟩
                      have HPK : Hid (∀ y : World, Ext wr y → Calls Tryz.prog 109 #[.slice aA A.length cA] y fun e w' => e = .returned (.string pk) ∧ Ext y w') := fun y hy => by
                        rw [hpk]
                        exact refPack _ A y (HRD.out.below (HEX.out.trans hy)) (fun e he => (HSM.out e he).1) (by omega) (text_sum A (fun e he => (HSM.out e he).2) hAl)
                      clear hlt hk HSN hext
                      by_cases hpq : packR A = packed.data.toList
                      · have hbq : (pk.toList == packed.toList) = true := by rw [hpk, ByteArray.toList_eq, ByteArray.toList_eq, ← hpq]; simp
                        have HUN : Hid (unpackL packed.data.toList = some A) := by show _ = _; rw [HSA.out, if_pos hpq]
                        clear hpk hpq
                        go_wp2_with fail
                        refine wp_region_X (by kernel_rfl) ?_
                        refine WX_take (i := 0) (v := ?_) rfl (by kernel_rfl) (by kernel_rfl) (by kernel_rfl) (stable_ext _) (by rfl) ?_ ?_
                        rotate_left
                        · intro y hy; unfold jAt; go_simp; refine ⟨Ext.refl _, ?_⟩; with_reducible rfl
                        refine WX_take (i := 1) (v := ?_) rfl (by kernel_rfl) (by kernel_rfl) (by kernel_rfl) (stable_ext _) (by rfl) ?_ ?_
                        rotate_left
                        · intro y hy; unfold jAt; go_simp; refine ⟨Ext.refl _, ?_⟩; with_reducible rfl
                        refine WX_take (i := 2) (v := ?_) rfl (by kernel_rfl) (by kernel_rfl) (by kernel_rfl) (stable_ext _) (by rfl) ?_ ?_
                        rotate_left
                        · intro y hy; unfold jAt; go_simp; refine ⟨Ext.refl _, ?_⟩; with_reducible rfl
                        refine WX_take (i := 3) (v := ?_) rfl (by kernel_rfl) (by kernel_rfl) (by kernel_rfl) (stable_ext _) (by rfl) ?_ ?_
                        rotate_left
                        · intro y hy; have q := cell_later hy hc3w; unfold jAt; go_simp; refine ⟨Ext.refl _, ?_⟩; with_reducible rfl
                        refine WX_take (i := 4) (v := ?_) rfl (by kernel_rfl) (by kernel_rfl) (by kernel_rfl) (stable_ext _) (by rfl) ?_ ?_
                        rotate_left
                        · intro y hy; unfold jAt; go_simp; refine ⟨Ext.refl _, ?_⟩; with_reducible rfl
                        refine WX_take (i := 5) (v := ?_) rfl (by kernel_rfl) (by kernel_rfl) (by kernel_rfl) (stable_ext _) (by rfl) ?_ ?_
                        rotate_left
                        · intro y hy; unfold jAt; go_simp; refine ⟨Ext.refl _, ?_⟩; with_reducible rfl
                        refine WX_take (i := 6) (v := ?_) rfl (by kernel_rfl) (by kernel_rfl) (by kernel_rfl) (stable_ext _) (by rfl) ?_ ?_
                        rotate_left
                        · intro y hy; unfold jAt; go_simp; refine ⟨Ext.refl _, ?_⟩; with_reducible rfl
                        refine WX_take (i := 7) (v := ?_) rfl (by kernel_rfl) (by kernel_rfl) (by kernel_rfl) (stable_ext _) (by rfl) ?_ ?_
                        rotate_left
                        · intro y hy; have q := cell_later hy hc3w; unfold jAt; go_simp; refine ⟨Ext.refl _, ?_⟩; with_reducible rfl
                        refine WX_take (i := 8) (v := ?_) rfl (by kernel_rfl) (by kernel_rfl) (by kernel_rfl) (stable_ext _) (by rfl) ?_ ?_
                        rotate_left
                        · intro y hy; unfold jAt; go_simp; refine ⟨rfl, (HPK.out y hy).mono ?_⟩; rintro e y2 ⟨rfl, h2⟩; refine ⟨_, rfl, h2, ?_⟩; with_reducible rfl
                        refine WX_take (i := 9) (v := ?_) rfl (by kernel_rfl) (by kernel_rfl) (by kernel_rfl) (stable_ext _) (by rfl) ?_ ?_
                        rotate_left
                        · intro y hy; unfold jAt; go_simp; refine ⟨Ext.refl _, ?_⟩; with_reducible rfl
                        refine WX_take (i := 10) (v := ?_) rfl (by kernel_rfl) (by kernel_rfl) (by kernel_rfl) (stable_ext _) (by rfl) ?_ ?_
                        rotate_left
                        · intro y hy; unfold jAt; go_simp; refine ⟨Ext.refl _, ?_⟩; with_reducible rfl
                        refine WX_take (i := 11) (v := ?_) rfl (by kernel_rfl) (by kernel_rfl) (by kernel_rfl) (stable_ext _) (by rfl) ?_ ?_
                        rotate_left
                        · intro y hy; unfold jAt; go_simp; refine ⟨Ext.refl _, ?_⟩; with_reducible rfl
                        refine WX_take (i := 12) (v := ?_) rfl (by kernel_rfl) (by kernel_rfl) (by kernel_rfl) (stable_ext _) (by rfl) ?_ ?_
                        rotate_left
                        · intro y hy; unfold jAt; go_simp; refine ⟨Ext.refl _, ?_⟩; with_reducible rfl
                        refine WX_done (by kernel_rfl) ?_ _
                        intro y hy
                        have HEy : Hid (Ext x1 y) := HEX.out.trans hy
                        clear hy
                        go_simp
                        go_wp2
                        go_ret2
                        refine ⟨HBN.out.trans (Below.mono HEy.out HBN.out.size), ?_⟩
                        unfold UnpD
                        rw [HUN.out]
                        exact ⟨_, _, rfl, owns_stay_wide HOW.out (fun j hj => Below.block HEy.out j (HOW.out.lt j hj).2)⟩
                      · have hbq : (pk.toList == packed.toList) = false := by
                          rw [hpk, ByteArray.toList_eq, ByteArray.toList_eq, beq_eq_false_iff_ne]; exact hpq
                        have HUN : Hid (unpackL packed.data.toList = none) := by show _ = _; rw [HSA.out, if_neg hpq]
                        clear hpk hpq
                        go_wp2_with fail
                        refine wp_region_X (by kernel_rfl) ?_
                        refine WX_take (i := 0) (v := ?_) rfl (by kernel_rfl) (by kernel_rfl) (by kernel_rfl) (stable_ext _) (by rfl) ?_ ?_
                        rotate_left
                        · intro y hy; unfold jAt; go_simp; refine ⟨Ext.refl _, ?_⟩; with_reducible rfl
                        refine WX_take (i := 1) (v := ?_) rfl (by kernel_rfl) (by kernel_rfl) (by kernel_rfl) (stable_ext _) (by rfl) ?_ ?_
                        rotate_left
                        · intro y hy; unfold jAt; go_simp; refine ⟨Ext.refl _, ?_⟩; with_reducible rfl
                        refine WX_take (i := 2) (v := ?_) rfl (by kernel_rfl) (by kernel_rfl) (by kernel_rfl) (stable_ext _) (by rfl) ?_ ?_
                        rotate_left
                        · intro y hy; unfold jAt; go_simp; refine ⟨Ext.refl _, ?_⟩; with_reducible rfl
                        refine WX_take (i := 3) (v := ?_) rfl (by kernel_rfl) (by kernel_rfl) (by kernel_rfl) (stable_ext _) (by rfl) ?_ ?_
                        rotate_left
                        · intro y hy; have q := cell_later hy hc3w; unfold jAt; go_simp; refine ⟨Ext.refl _, ?_⟩; with_reducible rfl
                        refine WX_take (i := 4) (v := ?_) rfl (by kernel_rfl) (by kernel_rfl) (by kernel_rfl) (stable_ext _) (by rfl) ?_ ?_
                        rotate_left
                        · intro y hy; unfold jAt; go_simp; refine ⟨Ext.refl _, ?_⟩; with_reducible rfl
                        refine WX_take (i := 5) (v := ?_) rfl (by kernel_rfl) (by kernel_rfl) (by kernel_rfl) (stable_ext _) (by rfl) ?_ ?_
                        rotate_left
                        · intro y hy; unfold jAt; go_simp; refine ⟨Ext.refl _, ?_⟩; with_reducible rfl
                        refine WX_take (i := 6) (v := ?_) rfl (by kernel_rfl) (by kernel_rfl) (by kernel_rfl) (stable_ext _) (by rfl) ?_ ?_
                        rotate_left
                        · intro y hy; unfold jAt; go_simp; refine ⟨Ext.refl _, ?_⟩; with_reducible rfl
                        refine WX_take (i := 7) (v := ?_) rfl (by kernel_rfl) (by kernel_rfl) (by kernel_rfl) (stable_ext _) (by rfl) ?_ ?_
                        rotate_left
                        · intro y hy; have q := cell_later hy hc3w; unfold jAt; go_simp; refine ⟨Ext.refl _, ?_⟩; with_reducible rfl
                        refine WX_take (i := 8) (v := ?_) rfl (by kernel_rfl) (by kernel_rfl) (by kernel_rfl) (stable_ext _) (by rfl) ?_ ?_
                        rotate_left
                        · intro y hy; unfold jAt; go_simp; refine ⟨rfl, (HPK.out y hy).mono ?_⟩; rintro e y2 ⟨rfl, h2⟩; refine ⟨_, rfl, h2, ?_⟩; with_reducible rfl
                        refine WX_take (i := 9) (v := ?_) rfl (by kernel_rfl) (by kernel_rfl) (by kernel_rfl) (stable_ext _) (by rfl) ?_ ?_
                        rotate_left
                        · intro y hy; unfold jAt; go_simp; refine ⟨Ext.refl _, ?_⟩; with_reducible rfl
                        refine WX_take (i := 10) (v := ?_) rfl (by kernel_rfl) (by kernel_rfl) (by kernel_rfl) (stable_ext _) (by rfl) ?_ ?_
                        rotate_left
                        · intro y hy; unfold jAt; go_simp; refine ⟨Ext.refl _, ?_⟩; with_reducible rfl
                        refine WX_take (i := 11) (v := ?_) rfl (by kernel_rfl) (by kernel_rfl) (by kernel_rfl) (stable_ext _) (by rfl) ?_ ?_
                        rotate_left
                        · intro y hy; unfold jAt; go_simp; refine ⟨Ext.refl _, ?_⟩; with_reducible rfl
                        refine WX_take (i := 12) (v := ?_) rfl (by kernel_rfl) (by kernel_rfl) (by kernel_rfl) (stable_ext _) (by rfl) ?_ ?_
                        rotate_left
                        · intro y hy; unfold jAt; go_simp; refine ⟨Ext.refl _, ?_⟩; with_reducible rfl
                        refine WX_done (by kernel_rfl) ?_ _
                        intro y hy
                        have HEy : Hid (Ext x1 y) := HEX.out.trans hy
                        clear hy
                        go_simp
                        go_wp2
                        go_ret2
                        refine ⟨HBN.out.trans (Below.mono HEy.out HBN.out.size), ?_⟩
                        unfold UnpD
                        rw [HUN.out]
                        exact ⟨_, _, _, rfl⟩
          · have hppn : pp ≠ packed.size := by
              intro e
              have : r.length = 0 := by omega
              exact hr0 (List.length_eq_zero_iff.1 this)
            have hppb : ((pp : Int) == (packed.size : Int)) = false := by
              rw [beq_eq_false_iff_ne]; omega
            have HUN : Hid (unpackL packed.data.toList = none) := by
              show _ = _
              rw [HU2.out, if_pos (Or.inl hr0)]
            go_wp2
            go_ret2
            refine ⟨HBN.out, ?_⟩
            unfold UnpD
            rw [HUN.out]
            exact ⟨_, _, _, rfl⟩

end Go.Proofs.YtocbogeoffeolaaGreatDoor

