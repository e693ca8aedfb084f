/-
  WALKS: the document's own answer: the tape's tree.
-/
import Derived.Test.YtocbogeoffeolaaGreatDoorSegAF
namespace Go.Proofs.YtocbogeoffeolaaGreatDoor
open Go.RowKit

def TreeW (base B : Nat) (S : ByteArray) (f : Nat) : Prop := ∀ (deep : Nat) (s : TapeS) (w : World), TapeA base w B S s → deep + f = 32 → 0 < f → roomS s ≤ 100000 →
    Calls Tryz.prog 206 #[.pointer (some ⟨B, 0, none⟩), .int .i64 deep] w fun e w' => e = .returned (.tuple #[]) ∧ TapeA base w' B S (treeS f deep s) ∧ Below base w w'

theorem rdw5 {w : World} {x y z u v : Value} {t : TypeId} {g : Nat} (hg : g = w.heap.size) : RdW (w.alloc (.cells #[x, y, z, u, v] t)) 5 (.slice (some ⟨g, 0, none⟩) 1 1) 1 [x, y, z, u, v] := by
  subst hg
  refine ⟨some ⟨w.heap.size, 0, none⟩, 1, rfl, Nat.le_refl _, by unfold maxLen; omega, rfl, fun j u hj => ⟨w.heap.size, 0, rfl, ?_⟩⟩
  rw [World.cell?_alloc_at _ _ _ _ rfl]
  match j, hj with
  | 0, hj => simpa using hj
  | 1, hj => simpa using hj
  | 2, hj => simpa using hj
  | 3, hj => simpa using hj
  | 4, hj => simpa using hj
  | j + 5, hj => simp at hj
theorem TapeA.bad {base : Nat} {w : World} {B : Nat} {S : ByteArray} {s : TapeS} (h : TapeA base w B S s) : w.cell? ⟨B, 2, none⟩ = some (.bool s.1.isNone) := by
  obtain ⟨_, _, vA, ⟨p, hh, _⟩, _⟩ := h
  rw [cell_of_heap hh]
  rfl

set_option maxHeartbeats 8000000 in
set_option maxRecDepth 100000 in
theorem tapeTree (base B : Nat) (S : ByteArray) (hS : S.size ≤ 1048576) : ∀ f, TreeW base B S f := by
  intro f
  induction f with
  | zero => intro deep s w _ _ h; omega
  | succ f ih =>
    intro deep s w hA hdf _ hroom
    have HIH : Hid (TreeW base B S f) := ih
    obtain ⟨i5, hi5, hz0, hz1, hz2⟩ := info_parts Tryz.infoEnt
    have hN1 := tapeA_num base B S s 1 w hA hS (by omega)
    have hs1 := num1_small s.1
    rcases hx1 : numSt 1 s.1 with ⟨n1, t1⟩
    rw [hx1] at hN1 hs1
    simp only at hN1 hs1
    clear ih hA
    go_enter Tryz.func206, Tryz.ntmps206
    go_wp2_with fail
    refine hN1.mono ?_
    rintro e w1 ⟨rfl, h1, hb1⟩
    have hN2 := tapeA_take base B S (t1, s.2) n1 w1 h1 hS (by omega)
    rcases hx2 : takeS n1 t1 with ⟨b2, t2⟩
    rw [hx2] at hN2
    simp only at hN2
    have HB1 : Hid (Below base w w1) := hb1
    clear hN1 h1 hb1
    go_wp2_with fail
    refine hN2.mono ?_
    rintro e w2 ⟨rfl, h2, hb2⟩
    have hN3 := tapeA_num base B S (t2, s.2) 3 w2 h2 hS (by omega)
    rcases hx3 : numSt 3 t2 with ⟨n3, t3⟩
    rw [hx3] at hN3
    simp only at hN3
    have HB2 : Hid (Below base w w2) := HB1.out.trans hb2
    clear hN2 h2 hb2
    go_wp2_with fail
    refine hN3.mono ?_
    rintro e w3 ⟨rfl, h3, hb3⟩
    have hN4 := tapeA_num base B S (t3, s.2) 1 w3 h3 hS (by omega)
    have hs4 := num1_small t3
    rcases hx4 : numSt 1 t3 with ⟨n, t4⟩
    rw [hx4] at hN4 hs4
    simp only at hN4 hs4
    have HB3 : Hid (Below base w w3) := HB2.out.trans hb3
    clear hN3 h3 hb3
    go_wp2_with fail
    refine hN4.mono ?_
    rintro e w4 ⟨rfl, h4, hb4⟩
    have HA4 : Hid (TapeA base w4 B S (t4, s.2)) := h4
    have HB4 : Hid (Below base w w4) := HB3.out.trans hb4
    have HX : Hid (numSt 1 (numSt 3 (textSt s.1).2).2 = (n, t4)) := by
      show _ = _
      unfold textSt
      rw [hx1]
      simp only
      rw [hx2]
      simp only
      rw [hx3]
      exact hx4
    clear hN4 h4 hb4 hx1 hx2 hx3 hx4
    obtain ⟨D, hD⟩ : ∃ D, D = entsS n (t4, s.2) := ⟨_, rfl⟩
    have HD : Hid (D = entsS n (t4, s.2)) := hD
    have hrm : roomS (t4, s.2) ≤ 100000 := by
      have h1 := left_text s.1
      have h2 := left_num 3 (textSt s.1).2
      have h3 := left_num 1 (numSt 3 (textSt s.1).2).2
      rw [HX.out] at h3
      have h4 : roomS (t4, s.2) ≤ roomS s := room_left (by simp only at h3; omega)
      omega
    clear hD
    go_wp2_with fail
    go_loopw [5] (fun i wr => ∃ (k : Nat) (s' : TapeS), k ≤ n ∧ i = .int .i64 k ∧ entsS (n - k) s' = D ∧ TapeA base wr B S s' ∧ Below base w wr ∧ roomS s' ≤ 100000) (fun i _ => n - (intOf i).toNat)
    case atStart => exact ⟨0, _, Nat.zero_le _, rfl, HD.out.symm, HA4.out, HB4.out, hrm⟩
    case round =>
      obtain ⟨k, s', hk, rfl, hent, hT0, hB0, hrS⟩ := hrel
      have hbad := hT0.bad
      have HEN : Hid (entsS (n - k) s' = D) := hent
      have HBB0 : Hid (Below base w wr) := hB0
      clear hent hB0
      by_cases hlt : k < n
      · have hlti : (k : Int) < (n : Int) := by omega
        rcases s' with ⟨u0, A⟩
        cases u0 with
        | none =>
          simp only [Option.isNone_none] at hbad
          have hDe : D = (none, A) := by rw [← HEN.out, ents_bad]
          have hTD : TapeA base wr B S D := by rw [hDe]; exact hT0
          have hrmD : roomS D ≤ 100000 := by rw [hDe]; exact hrS
          clear hDe hT0
          have HTD : Hid (TapeA base wr B S D) := hTD
          have hN5 := tapeA_num base B S D 1 wr hTD hS (by omega)
          have hs5 := num1_small D.1
          rcases hx5 : numSt 1 D.1 with ⟨n5, t5⟩
          rw [hx5] at hN5 hs5
          simp only at hN5 hs5
          have HX5 : Hid (numSt 1 D.1 = (n5, t5)) := hx5
          clear hx5 hTD
          go_wp2_with fail
          refine hN5.mono ?_
          rintro e x1 ⟨rfl, hT1, hbx1⟩
          have HB1' : Hid (Below base w x1) := HBB0.out.trans hbx1
          have HT1 : Hid (TapeA base x1 B S (t5, D.2)) := hT1
          have HTR : Hid (treeS (f + 1) deep s = if 0 < n5 ∧ 30 < deep then (none, D.2) else kidsS (treeS f (deep + 1)) n5 (t5, D.2)) := by
            show treeS _ _ _ = _
            unfold treeS
            simp only [HX.out, ← HD.out, HX5.out]
          have hrD : roomS (t5, D.2) ≤ 100000 := by
            have h1 := left_num 1 D.1
            rw [HX5.out] at h1
            have h2 : roomS (t5, D.2) ≤ roomS D := room_left h1
            have h3 := hrmD
            omega
          clear hN5 hbx1 hT1
          by_cases hn5 : 0 < n5
          · have hn5i : (0 : Int) < (n5 : Int) := by omega
            by_cases hdp : 30 < deep
            · have hdi : (30 : Int) < (deep : Int) := by omega
              obtain ⟨q1', q2', vA', ⟨pp', hh', hpp', hdr'⟩, hown'⟩ := id HT1.out
              have hc2' : x1.cell? ⟨B, 2, none⟩ = some (.bool t5.isNone) := by rw [cell_of_heap hh']; rfl
              have hf2' : x1.frozen? ⟨B, 2, none⟩ = false := frozen_of_heap hh' 2
              have HF : Hid (TapeA base (x1.setCell ⟨B, 2, none⟩ (.bool true)) B S (none, D.2)) := by
                refine ⟨q1', by simp [World.setCell]; omega, vA', ⟨pp', by rw [heap_set hh']; rfl, hpp', fun r h => by cases h⟩, ?_⟩
                exact owns_stay_wide hown' (fun j hj => Below.heap_setCell _ _ _ _ (fun e => blk_ne_wide hh' hown' (by decide) (by rw [hj, e])))
              have HBF : Hid (Below base w (x1.setCell ⟨B, 2, none⟩ (.bool true))) := Below.setCell HB1'.out q1' _
              have HTR2 : Hid (treeS (f + 1) deep s = (none, D.2)) := by show treeS _ _ _ = _; rw [HTR.out, if_pos ⟨hn5, hdp⟩]
              clear hh' hdr' hown'
              go_wp2_with fail
              refine wp_loop_rounds 1 ?_
              rw [rounds_succ]
              go_wp2
              go_end0
              refine ⟨rfl, ?_, HBF.out⟩
              rw [HTR2.out]
              exact HF.out
            · have hdi : ¬ (30 : Int) < (deep : Int) := by omega
              obtain ⟨G, hG⟩ : ∃ G, G = kidsS (treeS f (deep + 1)) n5 (t5, D.2) := ⟨_, rfl⟩
              have HG : Hid (G = kidsS (treeS f (deep + 1)) n5 (t5, D.2)) := hG
              have HTR2 : Hid (treeS (f + 1) deep s = G) := by show treeS _ _ _ = _; rw [HTR.out, if_neg (fun h => hdp h.2), hG]
              have hf0 : 0 < f := by omega
              clear hG
              go_wp2_with fail
              go_loopw [10] (fun i wr => ∃ (k : Nat) (s' : TapeS), k ≤ n5 ∧ i = .int .i64 k ∧ kidsS (treeS f (deep + 1)) (n5 - k) s' = G ∧ TapeA base wr B S s' ∧ Below base w wr ∧ roomS s' ≤ 100000) (fun i _ => n5 - (intOf i).toNat)
              case atStart => exact ⟨0, _, Nat.zero_le _, rfl, HG.out.symm, HT1.out, HB1'.out, hrD⟩
              case round =>
                obtain ⟨k, s', hk, rfl, hkid, hTk, hBk, hrk⟩ := hrel
                have hbad' := hTk.bad
                have HKD : Hid (kidsS (treeS f (deep + 1)) (n5 - k) s' = G) := hkid
                have HBk : Hid (Below base w wr) := hBk
                clear hkid hBk
                by_cases hltk : k < n5
                · have hltki : (k : Int) < (n5 : Int) := by omega
                  rcases s' with ⟨u0, A⟩
                  cases u0 with
                  | none =>
                    simp only [Option.isNone_none] at hbad'
                    have HGe : Hid (G = (none, A)) := by show G = _; rw [← HKD.out, kids_bad]
                    have HTk : Hid (TapeA base wr B S (none, A)) := hTk
                    clear hTk
                    go_wp2
                    go_end0
                    refine ⟨rfl, ?_, HBk.out⟩
                    rw [HTR2.out, HGe.out]
                    exact HTk.out
                  | some r =>
                    simp only [Option.isNone_some] at hbad'
                    have hcall := HIH.out (deep + 1) (some r, A) wr hTk (by omega) hf0 hrk
                    have hwd : IntKind.i64.wrap ((deep : Int) + 1) = ((deep + 1 : Nat) : Int) := by simp only [IntKind.wrap_i64]; omega
                    clear hTk
                    go_wp2_with fail
                    refine hcall.mono ?_
                    rintro e x3 ⟨rfl, hT3, hb3⟩
                    have HT3 : Hid (TapeA base x3 B S (treeS f (deep + 1) (some r, A))) := hT3
                    have HB3' : Hid (Below base w x3) := HBk.out.trans hb3
                    clear hcall hT3 hb3
                    go_wp2
                    go_roundw
                    case rel =>
                      refine ⟨k + 1, treeS f (deep + 1) (some r, A), by omega, by go_num, ?_, HT3.out, HB3'.out, Nat.le_trans (room_tree _ _ _) hrk⟩
                      have := HKD.out
                      rw [show n5 - k = (n5 - (k + 1)) + 1 by omega] at this
                      simpa [kidsS] using this
                    case measure => simp [intOf]; omega
                · have hltki : ¬ (k : Int) < (n5 : Int) := by omega
                  have HGe : Hid (G = s') := by show G = _; rw [← HKD.out, show n5 - k = 0 by omega]; rfl
                  have HTk : Hid (TapeA base wr B S s') := hTk
                  clear hTk
                  go_wp2
                  go_end0
                  refine ⟨rfl, ?_, HBk.out⟩
                  rw [HTR2.out, HGe.out]
                  exact HTk.out
          · obtain rfl : n5 = 0 := by omega
            have HTR2 : Hid (treeS (f + 1) deep s = (t5, D.2)) := by show treeS _ _ _ = _; rw [HTR.out, if_neg (fun h => hn5 h.1)]; rfl
            clear hn5
            go_wp2_with fail
            refine wp_loop_rounds 1 ?_
            rw [rounds_succ]
            go_wp2
            go_end0
            refine ⟨rfl, ?_, HB1'.out⟩
            rw [HTR2.out]
            exact HT1.out
        | some r =>
          simp only [Option.isNone_some] at hbad
          have hM0 := tapeA_num base B S ((some r), A) 1 wr hT0 hS (by omega)
          have hq0 := num_small 1 (some r) (by omega)
          have hr0 := num1_small (some r)
          rcases hy0 : numSt 1 (some r) with ⟨a1, u1⟩
          rw [hy0] at hM0 hq0 hr0
          simp only at hM0 hq0 hr0
          clear hT0
          go_wp2_with fail
          refine hM0.mono ?_
          rintro e v1 ⟨rfl, hT1, hbb0⟩
          have HBB1 : Hid (Below base w v1) := HBB0.out.trans hbb0
          clear hM0 hbb0 HBB0
          have hM1 := tapeA_take base B S (u1, A) a1 v1 hT1 hS (by omega)
          rcases hy1 : takeS a1 u1 with ⟨c2, u2⟩
          rw [hy1] at hM1
          simp only at hM1
          clear hT1
          go_wp2_with fail
          refine hM1.mono ?_
          rintro e v2 ⟨rfl, hT2, hbb1⟩
          have HBB2 : Hid (Below base w v2) := HBB1.out.trans hbb1
          clear hM1 hbb1 HBB1
          have hM2 := tapeA_num base B S (u2, A) 1 v2 hT2 hS (by omega)
          have hq2 := num_small 1 u2 (by omega)
          have hr2 := num1_small u2
          rcases hy2 : numSt 1 u2 with ⟨a3, u3⟩
          rw [hy2] at hM2 hq2 hr2
          simp only at hM2 hq2 hr2
          clear hT2
          go_wp2_with fail
          refine hM2.mono ?_
          rintro e v3 ⟨rfl, hT3, hbb2⟩
          have HBB3 : Hid (Below base w v3) := HBB2.out.trans hbb2
          clear hM2 hbb2 HBB2
          have hM3 := tapeA_take base B S (u3, A) a3 v3 hT3 hS (by omega)
          rcases hy3 : takeS a3 u3 with ⟨c4, u4⟩
          rw [hy3] at hM3
          simp only at hM3
          clear hT3
          go_wp2_with fail
          refine hM3.mono ?_
          rintro e v4 ⟨rfl, hT4, hbb3⟩
          have HBB4 : Hid (Below base w v4) := HBB3.out.trans hbb3
          clear hM3 hbb3 HBB3
          have hM4 := tapeA_num base B S (u4, A) 3 v4 hT4 hS (by omega)
          have hq4 := num_small 3 u4 (by omega)
          rcases hy4 : numSt 3 u4 with ⟨a5, u5⟩
          rw [hy4] at hM4 hq4
          simp only at hM4 hq4
          clear hT4
          go_wp2_with fail
          refine hM4.mono ?_
          rintro e v5 ⟨rfl, hT5, hbb4⟩
          have HBB5 : Hid (Below base w v5) := HBB4.out.trans hbb4
          clear hM4 hbb4 HBB4
          have hM5 := tapeA_num base B S (u5, A) 1 v5 hT5 hS (by omega)
          have hq5 := num_small 1 u5 (by omega)
          have hr5 := num1_small u5
          rcases hy5 : numSt 1 u5 with ⟨a6, u6⟩
          rw [hy5] at hM5 hq5 hr5
          simp only at hM5 hq5 hr5
          clear hT5
          go_wp2_with fail
          refine hM5.mono ?_
          rintro e v6 ⟨rfl, hT6, hbb5⟩
          have HBB6 : Hid (Below base w v6) := HBB5.out.trans hbb5
          clear hM5 hbb5 HBB5
          have HY : Hid (oneS (some r, A) = (u6, A ++ [⟨c2, false, c4, (a5 : Int), (a6 : Int)⟩])) := by
            show oneS _ = _
            unfold oneS textSt
            simp only [hy0, hy1, hy2, hy3, hy4, hy5]
          have HT6 : Hid (TapeA base v6 B S (u6, A)) := hT6
          obtain ⟨q1, q2, vA, ⟨pp, hh, hpp, hdr⟩, hown⟩ := id hT6
          obtain ⟨aA, cA, rfl, hcA⟩ := owns_slice_wide hown
          have hc3 : v6.cell? ⟨B, 3, none⟩ = some (.slice aA A.length cA) := by rw [cell_of_heap hh]; rfl
          have hal : A.length ≤ 100000 := by unfold roomS at hrS; simp only at hrS; omega
          have HOW : Hid (v6.ownsRow base 202 5 (.slice aA A.length cA) A.length (entVals A)) := hown
          have HHH : Hid (v6.heap[B]? = some (.cells #[.string S, .int .i64 pp, .bool u6.isNone, .slice aA A.length cA] 259 (0, 0))) := hh
          have HDR : Hid (∀ r', u6 = some r' → S.data.toList.drop pp = r') := hdr
          clear hT6 hh hown hy0 hy1 hy2 hy3 hy4 hy5 hdr
          go_wp2_with (at_builtin; go_must (refine wpList_append_w _ rfl _ _ 75 rfl base 202 i5 _ 5 56 Tryz.underlying75 hi5 hz0 hz1 hz2 rfl (by decide) _ _ _ rfl (HOW.out.alloc _) _ 1 (entCells ⟨c2, false, c4, (a5 : Int), (a6 : Int)⟩) rfl ?cr ?c0 ?c1 ?c2 ?c3 ?_))
          case cr => exact rdw5 rfl
          case c0 => intro u hu; simp [entCells] at hu; rcases hu with rfl | rfl | rfl | rfl | rfl <;> rfl
          case c1 => omega
          case c2 => unfold maxLen; omega
          case c3 => simp; omega
          intro v7 w7 hO7 hg7 _
          obtain ⟨a7, c7, rfl, hc7⟩ := owns_slice_wide hO7
          have hBl : B < v6.heap.size := (Array.getElem?_eq_some_iff.1 HHH.out).1
          have hk7 : w7.heap[B]? = some (.cells #[.string S, .int .i64 pp, .bool u6.isNone, .slice aA A.length cA] 259 (0, 0)) := by
            rw [hg7.block B (by simp; omega) (fun e => blk_ne_wide HHH.out HOW.out (by decide) e.symm), Below.heap_alloc _ _ _ hBl]
            exact HHH.out
          have hc3' : w7.cell? ⟨B, 3, none⟩ = some (.slice aA A.length cA) := by rw [cell_of_heap hk7]; rfl
          have hf3' : w7.frozen? ⟨B, 3, none⟩ = false := frozen_of_heap hk7 3
          have HB7 : Hid (Below base w w7) := ((HBB6.out.trans ((Below.refl base v6).alloc q2 _))).trans ⟨hg7.os, hg7.tape, hg7.output, hg7.size, fun j hj => hg7.block j (by simp; omega) (fun e => by have := (HOW.out.lt j e.symm).1; omega)⟩
          have HK7 : Hid (w7.heap[B]? = some (.cells #[.string S, .int .i64 pp, .bool u6.isNone, .slice aA A.length cA] 259 (0, 0))) := hk7
          have HO7 : Hid (w7.ownsRow base 202 5 (.slice a7 (A.length + 1) c7) (A.length + 1) (entVals A ++ entCells ⟨c2, false, c4, (a5 : Int), (a6 : Int)⟩)) := hO7
          have hz7 : base ≤ w7.heap.size := by have := hg7.size; simp at this; omega
          clear hO7 hg7 hk7 hc3
          go_wp2
          go_roundw
          case rel =>
            refine ⟨k + 1, oneS (some r, A), by omega, by go_num, ?_, ?_, ?_, Nat.le_trans (room_one (by simp)) hrS⟩
            · have := HEN.out
              rw [show n - k = (n - (k + 1)) + 1 by omega] at this
              simpa [entsS] using this
            · rw [HY.out]
              refine ⟨q1, by simp [World.setCell]; omega, .slice a7 (A.length + 1) c7, ⟨pp, by rw [heap_set HK7.out]; rfl, hpp, HDR.out⟩, ?_⟩
              have e1 : entVals (A ++ [⟨c2, false, c4, (a5 : Int), (a6 : Int)⟩]) = entVals A ++ entCells ⟨c2, false, c4, (a5 : Int), (a6 : Int)⟩ := by simp [entVals]
              simp only [e1, List.length_append, List.length_cons, List.length_nil]
              exact owns_stay_wide HO7.out (fun j hj => Below.heap_setCell _ _ _ _ (fun e => blk_ne_wide HK7.out HO7.out (by decide) (by rw [hj, e])))
            · exact Below.setCell HB7.out q1 _
          case measure => simp [intOf]; omega
      · have hDe : D = s' := by rw [← HEN.out, show n - k = 0 by omega]; rfl
        have hTD : TapeA base wr B S D := by rw [hDe]; exact hT0
        have hrmD : roomS D ≤ 100000 := by rw [hDe]; exact hrS
        have hlti : ¬ (k : Int) < (n : Int) := by omega
        clear hDe hT0
        have HTD : Hid (TapeA base wr B S D) := hTD
        have hN5 := tapeA_num base B S D 1 wr hTD hS (by omega)
        have hs5 := num1_small D.1
        rcases hx5 : numSt 1 D.1 with ⟨n5, t5⟩
        rw [hx5] at hN5 hs5
        simp only at hN5 hs5
        have HX5 : Hid (numSt 1 D.1 = (n5, t5)) := hx5
        clear hx5 hTD
        go_wp2_with fail
        refine hN5.mono ?_
        rintro e x1 ⟨rfl, hT1, hbx1⟩
        have HB1' : Hid (Below base w x1) := HBB0.out.trans hbx1
        have HT1 : Hid (TapeA base x1 B S (t5, D.2)) := hT1
        have HTR : Hid (treeS (f + 1) deep s = if 0 < n5 ∧ 30 < deep then (none, D.2) else kidsS (treeS f (deep + 1)) n5 (t5, D.2)) := by
          show treeS _ _ _ = _
          unfold treeS
          simp only [HX.out, ← HD.out, HX5.out]
        have hrD : roomS (t5, D.2) ≤ 100000 := by
          have h1 := left_num 1 D.1
          rw [HX5.out] at h1
          have h2 : roomS (t5, D.2) ≤ roomS D := room_left h1
          have h3 := hrmD
          omega
        clear hN5 hbx1 hT1
        by_cases hn5 : 0 < n5
        · have hn5i : (0 : Int) < (n5 : Int) := by omega
          by_cases hdp : 30 < deep
          · have hdi : (30 : Int) < (deep : Int) := by omega
            obtain ⟨q1', q2', vA', ⟨pp', hh', hpp', hdr'⟩, hown'⟩ := id HT1.out
            have hc2' : x1.cell? ⟨B, 2, none⟩ = some (.bool t5.isNone) := by rw [cell_of_heap hh']; rfl
            have hf2' : x1.frozen? ⟨B, 2, none⟩ = false := frozen_of_heap hh' 2
            have HF : Hid (TapeA base (x1.setCell ⟨B, 2, none⟩ (.bool true)) B S (none, D.2)) := by
              refine ⟨q1', by simp [World.setCell]; omega, vA', ⟨pp', by rw [heap_set hh']; rfl, hpp', fun r h => by cases h⟩, ?_⟩
              exact owns_stay_wide hown' (fun j hj => Below.heap_setCell _ _ _ _ (fun e => blk_ne_wide hh' hown' (by decide) (by rw [hj, e])))
            have HBF : Hid (Below base w (x1.setCell ⟨B, 2, none⟩ (.bool true))) := Below.setCell HB1'.out q1' _
            have HTR2 : Hid (treeS (f + 1) deep s = (none, D.2)) := by show treeS _ _ _ = _; rw [HTR.out, if_pos ⟨hn5, hdp⟩]
            clear hh' hdr' hown'
            go_wp2_with fail
            refine wp_loop_rounds 1 ?_
            rw [rounds_succ]
            go_wp2
            go_end0
            refine ⟨rfl, ?_, HBF.out⟩
            rw [HTR2.out]
            exact HF.out
          · have hdi : ¬ (30 : Int) < (deep : Int) := by omega
            obtain ⟨G, hG⟩ : ∃ G, G = kidsS (treeS f (deep + 1)) n5 (t5, D.2) := ⟨_, rfl⟩
            have HG : Hid (G = kidsS (treeS f (deep + 1)) n5 (t5, D.2)) := hG
            have HTR2 : Hid (treeS (f + 1) deep s = G) := by show treeS _ _ _ = _; rw [HTR.out, if_neg (fun h => hdp h.2), hG]
            have hf0 : 0 < f := by omega
            clear hG
            go_wp2_with fail
            go_loopw [10] (fun i wr => ∃ (k : Nat) (s' : TapeS), k ≤ n5 ∧ i = .int .i64 k ∧ kidsS (treeS f (deep + 1)) (n5 - k) s' = G ∧ TapeA base wr B S s' ∧ Below base w wr ∧ roomS s' ≤ 100000) (fun i _ => n5 - (intOf i).toNat)
            case atStart => exact ⟨0, _, Nat.zero_le _, rfl, HG.out.symm, HT1.out, HB1'.out, hrD⟩
            case round =>
              obtain ⟨k, s', hk, rfl, hkid, hTk, hBk, hrk⟩ := hrel
              have hbad' := hTk.bad
              have HKD : Hid (kidsS (treeS f (deep + 1)) (n5 - k) s' = G) := hkid
              have HBk : Hid (Below base w wr) := hBk
              clear hkid hBk
              by_cases hltk : k < n5
              · have hltki : (k : Int) < (n5 : Int) := by omega
                rcases s' with ⟨u0, A⟩
                cases u0 with
                | none =>
                  simp only [Option.isNone_none] at hbad'
                  have HGe : Hid (G = (none, A)) := by show G = _; rw [← HKD.out, kids_bad]
                  have HTk : Hid (TapeA base wr B S (none, A)) := hTk
                  clear hTk
                  go_wp2
                  go_end0
                  refine ⟨rfl, ?_, HBk.out⟩
                  rw [HTR2.out, HGe.out]
                  exact HTk.out
                | some r =>
                  simp only [Option.isNone_some] at hbad'
                  have hcall := HIH.out (deep + 1) (some r, A) wr hTk (by omega) hf0 hrk
                  have hwd : IntKind.i64.wrap ((deep : Int) + 1) = ((deep + 1 : Nat) : Int) := by simp only [IntKind.wrap_i64]; omega
                  clear hTk
                  go_wp2_with fail
                  refine hcall.mono ?_
                  rintro e x3 ⟨rfl, hT3, hb3⟩
                  have HT3 : Hid (TapeA base x3 B S (treeS f (deep + 1) (some r, A))) := hT3
                  have HB3' : Hid (Below base w x3) := HBk.out.trans hb3
                  clear hcall hT3 hb3
                  go_wp2
                  go_roundw
                  case rel =>
                    refine ⟨k + 1, treeS f (deep + 1) (some r, A), by omega, by go_num, ?_, HT3.out, HB3'.out, Nat.le_trans (room_tree _ _ _) hrk⟩
                    have := HKD.out
                    rw [show n5 - k = (n5 - (k + 1)) + 1 by omega] at this
                    simpa [kidsS] using this
                  case measure => simp [intOf]; omega
              · have hltki : ¬ (k : Int) < (n5 : Int) := by omega
                have HGe : Hid (G = s') := by show G = _; rw [← HKD.out, show n5 - k = 0 by omega]; rfl
                have HTk : Hid (TapeA base wr B S s') := hTk
                clear hTk
                go_wp2
                go_end0
                refine ⟨rfl, ?_, HBk.out⟩
                rw [HTR2.out, HGe.out]
                exact HTk.out
        · obtain rfl : n5 = 0 := by omega
          have HTR2 : Hid (treeS (f + 1) deep s = (t5, D.2)) := by show treeS _ _ _ = _; rw [HTR.out, if_neg (fun h => hn5 h.1)]; rfl
          clear hn5
          go_wp2_with fail
          refine wp_loop_rounds 1 ?_
          rw [rounds_succ]
          go_wp2
          go_end0
          refine ⟨rfl, ?_, HB1'.out⟩
          rw [HTR2.out]
          exact HT1.out

end Go.Proofs.YtocbogeoffeolaaGreatDoor

