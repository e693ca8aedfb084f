/-
  WALKS: hintlaw: made: one engine more.
-/
import Derived.Test.YtocbogeoffeolaaGreatDoorState
namespace Go.Proofs.YtocbogeoffeolaaGreatDoor
open Go.RowKit

theorem getElem_snoc_lt {α : Type} (l : List α) (a : α) (i : Nat) (h : i < l.length) (h' : i < (l ++ [a]).length) : (l ++ [a])[i] = l[i] := List.getElem_append_left h
theorem getElem_snoc_eq {α : Type} (l : List α) (a : α) (i : Nat) (h : ¬ i < l.length) (h' : i < (l ++ [a]).length) : (l ++ [a])[i] = a := by
  have e : i = l.length := by simp at h'; omega
  subst e
  simp

section
variable {pe : World → (Nat → Prop) → Nat → List (List Wd) → Prop}

theorem GS.made (hp : ProgOK pe) {w0 w w1 w2 : World} {B bx : Nat} {D Fx : Nat → Prop} {va va' vl vm : Value} {last : Nat} {us : List Value} {ms : List Wd} {es : List Eng} {o : Obj} (h : GS pe w0 w B D va vl vm last us ms es)
    (hb1 : Below w.heap.size w w1) (hx1 : pe w1 Fx bx []) (hFx : ∀ k, Fx k → w.heap.size ≤ k)
    (ho : w2.ownsRow 0 122 2 va' (es.length + 1) (pairVals es ++ [.pointer (some ⟨bx, 0, none⟩), .pointer (some ⟨w1.heap.size, 0, none⟩)]))
    (hg : ((w1.alloc (.cells #[vNil, vNil, vNil] 120)).alloc o).grownBy w2 va.ownBlock) (hk : va'.ownBlock = va.ownBlock ∨ va'.ownBlock = some (w1.heap.size + 2)) :
    w2.heap[B]? = some (.cells #[va, vl, vm, .int .i64 last] 74 (0, 0)) ∧
    GS pe w0 (w2.setCell ⟨B, 0, none⟩ va') B D va' vl vm last us ms (es ++ [⟨bx, w1.heap.size, Fx, fun k => k = w1.heap.size, []⟩]) := by
  have hz1 := hb1.size
  have hz2 : w1.heap.size + 2 ≤ w2.heap.size := by have := hg.size; simpa using this
  have hBz := h.bz
  have hx1l := hp.lt hx1
  have hvaB : va.ownBlock ≠ some B := blk_ne_wide h.heap h.row (by decide)
  have hval : ∀ k, va.ownBlock = some k → k < w.heap.size := fun k hk => (h.row.lt k hk).2
  -- the blocks between
  have hold : ∀ k, k < w.heap.size → va.ownBlock ≠ some k → w2.heap[k]? = w.heap[k]? := fun k hk hne => by
    rw [hg.block k (by simp; omega) (fun e => hne e.symm), Below.heap_alloc _ _ _ (by simp; omega), Below.heap_alloc _ _ _ (by omega), hb1.block k hk]
  have hnew : ∀ k, w.heap.size ≤ k → k < w1.heap.size → w2.heap[k]? = w1.heap[k]? := fun k hk hk1 => by
    rw [hg.block k (by simp; omega) (fun e => by have := hval k e.symm; omega), Below.heap_alloc _ _ _ (by simp; omega), Below.heap_alloc _ _ _ (by omega)]
  have hy : w2.heap[w1.heap.size]? = some (.cells #[vNil, vNil, vNil] 120 (0, 0)) := by
    rw [hg.block _ (by simp; omega) (fun e => by have := hval _ e.symm; omega), Below.heap_alloc _ _ _ (by simp)]
    show (w1.heap.push _)[w1.heap.size]? = _
    rw [Array.getElem?_push, if_pos rfl]
  have hB2 : w2.heap[B]? = some (.cells #[va, vl, vm, .int .i64 last] 74 (0, 0)) := by rw [hold B hBz hvaB]; exact h.heap
  have hfar : ∀ k, k ≠ B → (w2.setCell ⟨B, 0, none⟩ va').heap[k]? = w2.heap[k]? := fun k hk => Below.heap_setCell _ _ _ _ hk
  have hsz : (w2.setCell ⟨B, 0, none⟩ va').heap.size = w2.heap.size := by simp [World.setCell]
  have hall : ∀ k, k < w.heap.size → va.ownBlock ≠ some k → k ≠ B → (w2.setCell ⟨B, 0, none⟩ va').heap[k]? = w.heap[k]? := fun k hk h1 h2 => by rw [hfar k h2, hold k hk h1]
  have hfl : ∀ j (hj : j < es.length), ∀ k, es[j].f k → k < w.heap.size := fun j hj k hk => by
    rcases hk with hk | hk
    · exact hp.lt (h.eng j hj).x k hk
    · exact (h.eng j hj).fy k hk
  have hkeep : ∀ j (hj : j < es.length), ∀ k, es[j].f k → (w2.setCell ⟨B, 0, none⟩ va').heap[k]? = w.heap[k]? := fun j hj k hk => by
    refine hall k (hfl j hj k hk) (fun e => (h.eng j hj).ra k e hk) (fun e => ?_)
    rcases hk with hk | hk
    · exact (h.eng j hj).apart.xB (e ▸ hk)
    · exact (h.eng j hj).apart.yB (e ▸ hk)
  have hva' : ∀ k, va'.ownBlock = some k → va.ownBlock = some k ∨ k = w1.heap.size + 2 := fun k hk' => by
    rcases hk with h1 | h1
    · exact Or.inl (by rw [← h1]; exact hk')
    · rw [h1] at hk'; simp only [Option.some.injEq] at hk'; exact Or.inr hk'.symm
  have hbs := h.base.size
  refine ⟨hB2, ?_, ?_, h.len, ?_, ?_, ?_, ?_, ?_, h.loB, ?_, h.lol, h.lom, h.loD, ?_⟩
  · rw [heap_set hB2]; rfl
  · refine h.lists.stay (by rw [hsz]; omega) (fun k hd => hall k (h.lists.dlt k hd) (fun e => h.rD k e hd) (fun e => h.lists.dB (e ▸ hd))) (fun k hv => hall k (h.lists.ol.lt k hv).2 (fun e => owns_ne_wide h.row h.lists.ol (by decide) k e hv) (fun e => blk_ne h.heap h.lists.ol (by decide) (e ▸ hv))) (fun k hv => hall k (h.lists.om.lt k hv).2 (fun e => owns_ne_wide h.row h.lists.om (by decide) k e hv) (fun e => blk_ne h.heap h.lists.om (by decide) (e ▸ hv)))
  · have e1 : (es ++ [(⟨bx, w1.heap.size, Fx, fun k => k = w1.heap.size, []⟩ : Eng)]).length = es.length + 1 := by simp
    rw [e1, pairVals_snoc]
    refine owns_stay_wide ho (fun k hk' => hfar k (fun e => ?_))
    subst e
    exact blk_ne_wide hB2 ho (by decide) hk'
  · intro k hk' hd
    rcases hva' k hk' with h1 | h1
    · exact h.rD k h1 hd
    · have := h.lists.dlt k hd; omega
  · intro j hj
    by_cases hlt : j < es.length
    · rw [getElem_snoc_lt _ _ _ hlt]
      have hEj := h.eng j hlt
      refine ⟨hp.stay hEj.x (by rw [hsz]; omega) (fun k hk' => hkeep j hlt k (Or.inl hk')), hEj.y.stay (fun k hk' => hkeep j hlt k (Or.inr hk')), fun k hk' => by have := hfl j hlt k (Or.inr hk'); rw [hsz]; omega, ⟨hEj.apart.xy, hEj.apart.xD, hEj.apart.yD, hEj.apart.xB, hEj.apart.yB, hEj.apart.xl, hEj.apart.yl, hEj.apart.xm, hEj.apart.ym⟩, fun k hk' hf => ?_⟩
      rcases hva' k hk' with h1 | h1
      · exact hEj.ra k h1 hf
      · have := hfl j hlt k hf; omega
    · rw [getElem_snoc_eq _ _ _ hlt]
      refine ⟨?_, ?_, ?_, ?_, ?_⟩
      · refine hp.stay hx1 (by rw [hsz]; omega) (fun k hk' => ?_)
        have h1 := hFx k hk'
        rw [hfar k (by omega), hnew k h1 (hx1l k hk')]
      · refine ⟨vNil, ?_, rfl, [], rfl, World.ownsRow_nil _ _ _ _, fun k hk' => by simp [vNil, Value.ownBlock] at hk', fun i hi => by simp at hi⟩
        show (w2.setCell ⟨B, 0, none⟩ va').heap[w1.heap.size]? = _
        rw [hfar _ (by omega)]; exact hy
      · intro k hk'
        have e : k = w1.heap.size := hk'
        rw [hsz]; omega
      · refine ⟨fun k h1 h2 => ?_, fun k h1 hd => ?_, fun k h1 hd => ?_, fun h1 => ?_, fun h1 => ?_, fun k hv h1 => ?_, fun k hv h1 => ?_, fun k hv h1 => ?_, fun k hv h1 => ?_⟩
        · have e : k = w1.heap.size := h2
          have := hx1l k h1; omega
        · have := hFx k h1; have := h.lists.dlt k hd; omega
        · have e : k = w1.heap.size := h1
          have := h.lists.dlt k hd; omega
        · have := hFx B h1; omega
        · have e : B = w1.heap.size := h1
          omega
        · have := hFx k h1; have := (h.lists.ol.lt k hv).2; omega
        · have e : k = w1.heap.size := h1
          have := (h.lists.ol.lt k hv).2; omega
        · have := hFx k h1; have := (h.lists.om.lt k hv).2; omega
        · have e : k = w1.heap.size := h1
          have := (h.lists.om.lt k hv).2; omega
      · intro k hk' hf
        rcases hva' k hk' with h1 | h1
        · have hl := hval k h1
          rcases hf with hf | hf
          · have := hFx k hf; omega
          · have e : k = w1.heap.size := hf
            omega
        · rcases hf with hf | hf
          · have := hx1l k hf; omega
          · have e : k = w1.heap.size := hf
            omega
  · intro a b ha hb hne k hka hkb
    have hnewf : ∀ k, (Eng.f ⟨bx, w1.heap.size, Fx, fun k => k = w1.heap.size, []⟩ k) → w.heap.size ≤ k := fun k hk' => by
      rcases hk' with h1 | h1
      · exact hFx k h1
      · have e : k = w1.heap.size := h1
        omega
    by_cases hla : a < es.length
    · rw [getElem_snoc_lt _ _ _ hla] at hka
      by_cases hlb : b < es.length
      · rw [getElem_snoc_lt _ _ _ hlb] at hkb
        exact h.two a b hla hlb hne k hka hkb
      · rw [getElem_snoc_eq _ _ _ hlb] at hkb
        have := hnewf k hkb; have := hfl a hla k hka; omega
    · rw [getElem_snoc_eq _ _ _ hla] at hka
      by_cases hlb : b < es.length
      · rw [getElem_snoc_lt _ _ _ hlb] at hkb
        have := hnewf k hka; have := hfl b hlb k hkb; omega
      · simp at ha hb; omega
  · refine ⟨(hg.os.trans hb1.os).trans h.base.os, (hg.tape.trans hb1.tape).trans h.base.tape, (hg.output.trans hb1.output).trans h.base.output, by rw [hsz]; omega, fun k hk' => ?_⟩
    have := h.loB
    rw [hall k (by omega) (fun e => by have := h.loa k e; omega) (by omega), h.base.block k hk']
  · intro k hk'
    rcases hva' k hk' with h1 | h1
    · exact h.loa k h1
    · omega
  · intro j hj k hk'
    by_cases hlt : j < es.length
    · rw [getElem_snoc_lt _ _ _ hlt] at hk'
      exact h.loE j hlt k hk'
    · rw [getElem_snoc_eq _ _ _ hlt] at hk'
      rcases hk' with h1 | h1
      · have := hFx k h1; omega
      · have e : k = w1.heap.size := h1
        omega
theorem pair_cells {w : World} {x y : Value} {t : TypeId} {b : Nat} (hb : b = w.heap.size) : ∀ j u, [x, y][j]? = some u → (w.alloc (.cells #[x, y] t)).cell? ((⟨b, 0, none⟩ : Addr).add j) = some u := by
  intro j u hj
  rw [Addr.add_lit, World.cell?_alloc_at _ _ _ _ hb]
  match j, hj with
  | 0, hj => simpa using hj
  | 1, hj => simpa using hj
  | j + 2, hj => simp at hj

theorem Tryz.infoPair : (Tryz.prog.info? 122).map (fun i => (i.zero, i.size, i.bytes)) = some (some (.agg #[.pointer none, .pointer none]), 2, 16) := by kernel_rfl

set_option maxHeartbeats 1000000 in
set_option maxRecDepth 100000 in
theorem made_any (hp : ProgOK pe) (w0 w : World) (B : Nat) (D : Nat → Prop) (va vl vm : Value) (last : Nat) (us : List Value) (ms : List Wd) (es : List Eng) (h : GS pe w0 w B D va vl vm last us ms es) (hle : es.length ≤ 10) :
    Calls Tryz.prog 40 #[.pointer (some ⟨B, 0, none⟩)] w fun e w' => e = .returned (.bool true) ∧ ∃ (va' : Value) (en : Eng), en.ts = [] ∧ GS pe w0 w' B D va' vl vm last us ms (es ++ [en]) := by
  obtain ⟨i3, hi3, hz0, hz1, hz2⟩ := info_parts Tryz.infoPair
  have HP : Hid (ProgOK pe) := hp
  have HG : Hid (GS pe w0 w B D va vl vm last us ms es) := h
  have hBz := h.bz
  clear hp h
  go_enter Tryz.func40, Tryz.ntmps40
  go_wp2_with fail
  refine (HP.out.new w).mono ?_
  rintro e w1 ⟨bx, Fx, rfl, hx1, hFx, hb1⟩
  have hz1' := hb1.size
  have hB1 : w1.heap[B]? = some (.cells #[va, vl, vm, .int .i64 last] 74 (0, 0)) := by rw [hb1.block B hBz]; exact HG.out.heap
  have hrow1 : w1.ownsRow 0 122 2 va es.length (pairVals es) := owns_stay_wide HG.out.row (fun k hk => hb1.block k (HG.out.row.lt k hk).2)
  have hc0 : w1.cell? ⟨B, 0, none⟩ = some va := by rw [cell_of_heap hB1]; rfl
  have HX1 : Hid (pe w1 Fx bx []) := hx1
  have HB1 : Hid (w1.heap[B]? = some (.cells #[va, vl, vm, .int .i64 last] 74 (0, 0))) := hB1
  clear hx1 hB1
  go_wp2_with (at_builtin; go_must (refine wpList_append_wide _ rfl _ _ 71 rfl 0 122 i3 (.agg #[.pointer none, .pointer none]) 2 16 Tryz.underlying71 hi3 hz0 hz1 hz2 rfl (by decide) _ _ _ rfl ((hrow1.alloc _).alloc _) ⟨w1.heap.size + 1, 0, none⟩ 1 1 [.pointer (some ⟨bx, 0, none⟩), .pointer (some ⟨w1.heap.size, 0, none⟩)] rfl rfl (by decide) ?c0 ?c1 ?c2 ?c3 ?c4 ?_))
  case c0 => exact pair_cells (by simp)
  case c1 =>
    intro u hu
    simp only [List.mem_cons, List.not_mem_nil, or_false] at hu
    rcases hu with rfl | rfl <;> rfl
  case c2 => unfold maxLen; omega
  case c3 => omega
  case c4 => exact Nat.zero_le _
  intro va' w2 ho2 hg2 hk2
  obtain ⟨a2, c2, rfl, hc2⟩ := owns_slice_wide ho2
  have hmd := HG.out.made HP.out hb1 HX1.out hFx ho2 hg2 hk2
  have hc20 : w2.cell? ⟨B, 0, none⟩ = some va := by rw [cell_of_heap hmd.1]; rfl
  have hf20 : w2.frozen? ⟨B, 0, none⟩ = false := frozen_of_heap hmd.1 0
  have HM : Hid (GS pe w0 (w2.setCell ⟨B, 0, none⟩ (.slice a2 (es.length + 1) c2)) B D (.slice a2 (es.length + 1) c2) vl vm last us ms (es ++ [⟨bx, w1.heap.size, Fx, fun k => k = w1.heap.size, []⟩])) := hmd.2
  clear hmd ho2 hg2 hk2 hb1 hFx hrow1 HB1 HX1 HG HP
  go_wp2
  go_ret
  exact ⟨rfl, _, _, rfl, HM.out⟩
end

end Go.Proofs.YtocbogeoffeolaaGreatDoor
