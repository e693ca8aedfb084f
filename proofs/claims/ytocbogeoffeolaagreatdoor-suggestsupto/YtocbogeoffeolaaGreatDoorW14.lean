/-
  WALKS: hintlaw: step, where the step is New, Observe or Suggest.
-/
import Derived.Test.YtocbogeoffeolaaGreatDoorW13
namespace Go.Proofs.YtocbogeoffeolaaGreatDoor
open Go.RowKit

section
variable {pe : World → (Nat → Prop) → Nat → List (List Wd) → Prop}

theorem GS.below (hp : ProgOK pe) {w0 w w' : World} {B : Nat} {D : Nat → Prop} {va vl vm : Value} {last : Nat} {us : List Value} {ms : List Wd} {es : List Eng} (h : GS pe w0 w B D va vl vm last us ms es) (hb : Below w.heap.size w w') :
    GS pe w0 w' B D va vl vm last us ms es := by
  have hz := hb.size
  refine ⟨by rw [hb.block B h.bz]; exact h.heap, h.lists.stay hz (fun k hk => hb.block k (h.lists.dlt k hk)) (fun k hk => hb.block k (h.lists.ol.lt k hk).2) (fun k hk => hb.block k (h.lists.om.lt k hk).2), h.len, owns_stay_wide h.row (fun k hk => hb.block k (h.row.lt k hk).2), h.rD, fun i hi => ?_, h.two, ?_, h.loB, h.loa, h.lol, h.lom, h.loD, h.loE⟩
  · have hE := h.eng i hi
    exact ⟨hp.stay hE.x hz (fun k hk => hb.block k (hp.lt hE.x k hk)), hE.y.stay (fun k hk => hb.block k (hE.fy k hk)), fun k hk => by have := hE.fy k hk; omega, ⟨hE.apart.xy, hE.apart.xD, hE.apart.yD, hE.apart.xB, hE.apart.yB, hE.apart.xl, hE.apart.yl, hE.apart.xm, hE.apart.ym⟩, hE.ra⟩
  · exact h.base.trans (hb.mono h.base.size)

theorem GS.before {w0 w : World} {B : Nat} {D : Nat → Prop} {va vl vm : Value} {last : Nat} {us : List Value} {ms : List Wd} {es : List Eng} (h : GS pe w0 w B D va vl vm last us ms es) (i : Nat) (hi : i < es.length)
    (hbk : bulkT es[i].ts ≤ 16777216) (hl : last ≤ 1073741824) (hu : us.length ≤ 17179869184) : Before pe w es[i].fx es[i].fy D B es[i].bx es[i].byy va vl vm last us ms vNil vNil es[i].ts :=
  ⟨h.heap, h.lists, h.len, (h.eng i hi).x, (h.eng i hi).y, (h.eng i hi).fy, (h.eng i hi).apart, hbk, hl, hu⟩

theorem bulk_obs (ts : List (List Wd)) (s : List UInt8) : bulkT (obsL ts s).2 ≤ bulkT ts + 25 := by
  unfold obsL
  split
  · rename_i h
    have h24 : s.length ≤ 24 := by
      have := h.1
      simp only [queryB, Bool.and_eq_true, decide_eq_true_eq] at this
      exact this.1
    have hw := wordsTo_le (foldL s) (foldL s).length
    rw [foldL_length] at hw
    have hw2 : (wordsL (foldL s)).length ≤ 24 := by unfold wordsL; rw [foldL_length]; omega
    split
    · simp only; omega
    · have : bulkT (ts ++ [wordsL (foldL s)]) = bulkT ts + ((wordsL (foldL s)).length + 1) := by simp [bulkT]
      simp only
      omega
  · simp only; omega

/-- The state behind a step. -/
def Next (pe : World → (Nat → Prop) → Nat → List (List Wd) → Prop) (w0 w' : World) (B last : Nat) (us : List Value) (es : List Eng) (M : Nat) : Prop :=
  ∃ (D' : Nat → Prop) (va' vl' vm' : Value) (last' : Nat) (us' : List Value) (ms' : List Wd) (es' : List Eng), GS pe w0 w' B D' va' vl' vm' last' us' ms' es' ∧ last' ≤ last + 1 ∧ us'.length ≤ us.length + 9 ∧ es.length ≤ es'.length ∧ es'.length ≤ es.length + 1 ∧
    (∀ i (h : i < es'.length), bulkT es'[i].ts ≤ M + 25)

theorem row_cells {w : World} {B : Nat} {D : Nat → Prop} {va vl vm : Value} {w0 : World} {last : Nat} {us : List Value} {ms : List Wd} {es : List Eng} (h : GS pe w0 w B D va vl vm last us ms es) (i : Nat) (hi : i < es.length) :
    ∃ g c, va = .slice (some ⟨g, 0, none⟩) es.length c ∧ w.cell? ⟨g, i * 2, none⟩ = some (.pointer (some ⟨es[i].bx, 0, none⟩)) ∧ w.cell? ⟨g, i * 2 + 1, none⟩ = some (.pointer (some ⟨es[i].byy, 0, none⟩)) := by
  rcases h.row.2 with ⟨_, h0⟩ | ⟨g, cap, cur, he, _⟩
  · omega
  · have hc := h.row.cells (g := g) (by rw [he]; rfl)
    have hp := pairVals_get es i hi
    refine ⟨g, cap, he, ?_, ?_⟩
    · have := hc (2 * i) _ hp.1
      rw [Addr.add_lit, Nat.zero_add, Nat.mul_comm] at this
      exact this
    · have := hc (2 * i + 1) _ hp.2
      rw [Addr.add_lit, Nat.zero_add, Nat.mul_comm] at this
      exact this

set_option maxHeartbeats 1000000 in
set_option maxRecDepth 100000 in
theorem step_new (hp : ProgOK pe) (w0 w : World) (B : Nat) (D : Nat → Prop) (va vl vm : Value) (last : Nat) (us : List Value) (ms : List Wd) (es : List Eng) (M : Nat) (W N Mm K : Int) (S T : ByteArray) (L : Value) (made : Bool)
    (h : GS pe w0 w B D va vl vm last us ms es) (hle : es.length ≤ 10) (hLs : ∃ a n c, L = .slice a n c) (hbk : ∀ i (h : i < es.length), bulkT es[i].ts ≤ M) :
    Calls Tryz.prog 41 #[.pointer (some ⟨B, 0, none⟩), .agg (opV 1 W N Mm K S T L made)] w fun e w' => e = .returned (.bool true) ∧ Next pe w0 w' B last us es M := by
  obtain ⟨aL, nL, cL, rfl⟩ := hLs
  unfold opV
  have HP : Hid (ProgOK pe) := hp
  have HG : Hid (GS pe w0 w B D va vl vm last us ms es) := h
  have HK : Hid (∀ i (h : i < es.length), bulkT es[i].ts ≤ M) := hbk
  clear hp h hbk
  go_enter Tryz.func41, Tryz.ntmps41
  go_wp2_with fail
  have hb0 : Below w.heap.size w (w.alloc (.cells #[.int .i64 1, .int .i64 W, .int .i64 N, .int .i64 Mm, .int .i64 K, .string S, .string T, .slice aL nL cL, .bool made] 77)) := (Below.refl _ _).alloc (Nat.le_refl _) _
  refine (made_any HP.out w0 _ B D va vl vm last us ms es (HG.out.below HP.out hb0) hle).mono ?_
  rintro e w1 ⟨rfl, va', en, hen, hG'⟩
  have HN : Hid (Next pe w0 w1 B last us es M) := ⟨D, va', vl, vm, last, us, ms, es ++ [en], hG', by omega, by omega, by simp, by simp, fun i hi => by
    by_cases hlt : i < es.length
    · rw [getElem_snoc_lt _ _ _ hlt]; have := HK.out i hlt; omega
    · rw [getElem_snoc_eq _ _ _ hlt, hen]; simp [bulkT]⟩
  clear hG' hen hb0 HG HP HK
  go_wp2
  go_ret
  exact ⟨rfl, HN.out⟩
end

end Go.Proofs.YtocbogeoffeolaaGreatDoor
