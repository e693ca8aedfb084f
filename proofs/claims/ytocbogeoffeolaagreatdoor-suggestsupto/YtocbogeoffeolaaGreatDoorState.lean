/-
  HOW THINGS STAND between two steps: all engines, the lists, hintlaw's World.
-/
import Derived.Test.YtocbogeoffeolaaGreatDoorW12
import Derived.Test.YtocbogeoffeolaaGreatDoorApp3
namespace Go.Proofs.YtocbogeoffeolaaGreatDoor
open Go.RowKit

structure Eng where
  bx : Nat
  byy : Nat
  fx : Nat → Prop
  fy : Nat → Prop
  ts : List (List Wd)

def Eng.f (e : Eng) (k : Nat) : Prop := e.fx k ∨ e.fy k
def vNil : Value := .slice none 0 0
def pairVals (es : List Eng) : List Value := es.flatMap fun e => [.pointer (some ⟨e.bx, 0, none⟩), .pointer (some ⟨e.byy, 0, none⟩)]

theorem pairVals_len (es : List Eng) : (pairVals es).length = es.length * 2 := by
  induction es with
  | nil => rfl
  | cons e es ih => simp only [pairVals, List.flatMap_cons, List.length_append, List.length_cons, List.length_nil] at ih ⊢; omega
theorem pairVals_snoc (es : List Eng) (e : Eng) : pairVals (es ++ [e]) = pairVals es ++ [.pointer (some ⟨e.bx, 0, none⟩), .pointer (some ⟨e.byy, 0, none⟩)] := by simp [pairVals]
theorem pairVals_set (es : List Eng) : ∀ (i : Nat) (e : Eng) (h : i < es.length), e.bx = es[i].bx → e.byy = es[i].byy → pairVals (es.set i e) = pairVals es := by
  induction es with
  | nil => intro i e h; simp at h
  | cons a es ih =>
    intro i e h h1 h2
    cases i with
    | zero => simp at h1 h2; simp [pairVals, h1, h2]
    | succ i =>
      have := ih i e (by simpa using h) (by simpa using h1) (by simpa using h2)
      simp only [pairVals, List.set_cons_succ, List.flatMap_cons] at this ⊢
      rw [this]
theorem pairVals_get (es : List Eng) : ∀ (i : Nat) (h : i < es.length), (pairVals es)[2 * i]? = some (.pointer (some ⟨es[i].bx, 0, none⟩)) ∧ (pairVals es)[2 * i + 1]? = some (.pointer (some ⟨es[i].byy, 0, none⟩)) := by
  induction es with
  | nil => intro i h; simp at h
  | cons a es ih =>
    intro i h
    cases i with
    | zero => simp [pairVals]
    | succ i =>
      have := ih i (by simpa using h)
      have e : pairVals (a :: es) = .pointer (some ⟨a.bx, 0, none⟩) :: .pointer (some ⟨a.byy, 0, none⟩) :: pairVals es := by simp [pairVals]
      rw [e, show 2 * (i + 1) = 2 * i + 1 + 1 by omega]
      simpa using this

section
variable (pe : World → (Nat → Prop) → Nat → List (List Wd) → Prop)

structure EngOK (w : World) (D : Nat → Prop) (B : Nat) (va vl vm : Value) (e : Eng) : Prop where
  x : pe w e.fx e.bx e.ts
  y : RefT w e.fy e.byy vNil vNil e.ts
  fy : ∀ k, e.fy k → k < w.heap.size
  apart : Apart w e.fx e.fy D B vl vm
  ra : ∀ k, va.ownBlock = some k → ¬ e.f k

/-- w0: the world in which all began. -/
structure GS (w0 w : World) (B : Nat) (D : Nat → Prop) (va vl vm : Value) (last : Nat) (us : List Value) (ms : List Wd) (es : List Eng) : Prop where
  heap : w.heap[B]? = some (.cells #[va, vl, vm, .int .i64 last] 74 (0, 0))
  lists : Lists w D B vl vm us ms
  len : us.length = ms.length
  row : w.ownsRow 0 122 2 va es.length (pairVals es)
  rD : ∀ k, va.ownBlock = some k → ¬ D k
  eng : ∀ i (h : i < es.length), EngOK pe w D B va vl vm es[i]
  two : ∀ i j (hi : i < es.length) (hj : j < es.length), i ≠ j → ∀ k, es[i].f k → ¬ es[j].f k
  base : Below w0.heap.size w0 w
  loB : w0.heap.size ≤ B
  loa : ∀ k, va.ownBlock = some k → w0.heap.size ≤ k
  lol : ∀ k, vl.ownBlock = some k → w0.heap.size ≤ k
  lom : ∀ k, vm.ownBlock = some k → w0.heap.size ≤ k
  loD : ∀ k, D k → w0.heap.size ≤ k
  loE : ∀ i (h : i < es.length), ∀ k, es[i].f k → w0.heap.size ≤ k
end

section
variable {pe : World → (Nat → Prop) → Nat → List (List Wd) → Prop}

theorem GS.bz {w0 w : World} {B : Nat} {D : Nat → Prop} {va vl vm : Value} {last : Nat} {us : List Value} {ms : List Wd} {es : List Eng} (h : GS pe w0 w B D va vl vm last us ms es) : B < w.heap.size := by
  by_cases hh : B < w.heap.size
  · exact hh
  · have := h.heap; rw [Array.getElem?_eq_none (by omega)] at this; simp at this

/-- A step of one engine. -/
theorem GS.after (hp : ProgOK pe) {w0 w w' : World} {B : Nat} {D : Nat → Prop} {va vl vm : Value} {last last' : Nat} {us : List Value} {ms : List Wd} {es : List Eng} {ts' : List (List Wd)} (h : GS pe w0 w B D va vl vm last us ms es)
    (i : Nat) (hi : i < es.length) (ha : After pe w w' es[i].fx es[i].fy D B es[i].bx es[i].byy va vl vm last us vNil vNil ts' last') :
    ∃ (D' : Nat → Prop) (vl' vm' : Value) (us' : List Value) (ms' : List Wd) (e' : Eng), GS pe w0 w' B D' va vl' vm' last' us' ms' (es.set i e') ∧ e'.ts = ts' ∧ us'.length ≤ us.length + 9 := by
  obtain ⟨⟨Fx', Fy', D', vl', vm', us', ms', hB', hL', hlen', hle', hx', hy', hfy', hap', hFx, hFy, hD, hvl, hvm⟩, hfr, _⟩ := ha
  have hzz := h.base.size
  have hz := hfr.size
  have hE := h.eng i hi
  have hfxl := hp.lt hE.x
  -- what is not touched
  have hold : ∀ k, k < w.heap.size → ¬ es[i].f k → k ≠ B → vl.ownBlock ≠ some k → vm.ownBlock ≠ some k → w'.heap[k]? = w.heap[k]? := fun k hk h1 h2 h3 h4 => by
    refine hfr.block k hk (fun hh => ?_)
    rcases hh with hh | hh | hh | hh | hh
    · exact h1 (Or.inl hh)
    · exact h1 (Or.inr hh)
    · exact h2 hh
    · exact h3 hh
    · exact h4 hh
  have hvaB : va.ownBlock ≠ some B := blk_ne_wide h.heap h.row (by decide)
  have hva : ∀ k, va.ownBlock = some k → w'.heap[k]? = w.heap[k]? := fun k hk =>
    hold k (h.row.lt k hk).2 (hE.ra k hk) (fun e => hvaB (by rw [← e]; exact hk)) (fun e => owns_ne_wide h.row h.lists.ol (by decide) k hk e) (fun e => owns_ne_wide h.row h.lists.om (by decide) k hk e)
  have hfl : ∀ j (hj : j < es.length), ∀ k, es[j].f k → k < w.heap.size := fun j hj k hk => by
    rcases hk with hk | hk
    · exact hp.lt (h.eng j hj).x k hk
    · exact (h.eng j hj).fy k hk
  have hoth : ∀ j (hj : j < es.length), j ≠ i → ∀ k, es[j].f k → w'.heap[k]? = w.heap[k]? := fun j hj hne k hk => by
    refine hold k (hfl j hj k hk) (fun hh => h.two j i hj hi hne k hk hh) (fun e => ?_) (fun e => ?_) (fun e => ?_)
    · rcases hk with hk | hk
      · exact (h.eng j hj).apart.xB (e ▸ hk)
      · exact (h.eng j hj).apart.yB (e ▸ hk)
    · rcases hk with hk | hk
      · exact (h.eng j hj).apart.xl k e hk
      · exact (h.eng j hj).apart.yl k e hk
    · rcases hk with hk | hk
      · exact (h.eng j hj).apart.xm k e hk
      · exact (h.eng j hj).apart.ym k e hk
  have hf' : ∀ k, Fx' k ∨ Fy' k → es[i].f k ∨ w.heap.size ≤ k := fun k hk => by
    rcases hk with hk | hk
    · rcases hFx k hk with h1 | h1
      · exact Or.inl (Or.inl h1)
      · exact Or.inr h1
    · rcases hFy k hk with h1 | h1
      · exact Or.inl (Or.inr h1)
      · exact Or.inr h1
  refine ⟨D', vl', vm', us', ms', ⟨es[i].bx, es[i].byy, Fx', Fy', ts'⟩, ⟨hB', hL', hlen', ?_, ?_, ?_, ?_, ?_, h.loB, h.loa, ?_, ?_, ?_, ?_⟩, rfl, hle'⟩
  · rw [pairVals_set es i ⟨es[i].bx, es[i].byy, Fx', Fy', ts'⟩ hi rfl rfl, List.length_set]
    exact owns_stay_wide h.row hva
  · intro k hk hd
    rcases hD k hd with h1 | h1
    · exact h.rD k hk h1
    · have := (h.row.lt k hk).2; omega
  · intro j hj
    rw [List.length_set] at hj
    rw [List.getElem_set]
    split
    · refine ⟨hx', hy', hfy', hap', fun k hk hh => ?_⟩
      rcases hf' k hh with h1 | h1
      · exact hE.ra k hk h1
      · have := (h.row.lt k hk).2; omega
    · rename_i hne
      have hEj := h.eng j hj
      have hkeep := hoth j hj (fun e => hne e.symm)
      have hlt := hfl j hj
      refine ⟨hp.stay hEj.x hz (fun k hk => hkeep k (Or.inl hk)), hEj.y.stay (fun k hk => hkeep k (Or.inr hk)), fun k hk => by have := hlt k (Or.inr hk); omega, ?_, hEj.ra⟩
      have hA := hEj.apart
      refine ⟨hA.xy, fun k hk hd => ?_, fun k hk hd => ?_, hA.xB, hA.yB, fun k hv hk => ?_, fun k hv hk => ?_, fun k hv hk => ?_, fun k hv hk => ?_⟩
      · rcases hD k hd with h1 | h1
        · exact hA.xD k hk h1
        · have := hlt k (Or.inl hk); omega
      · rcases hD k hd with h1 | h1
        · exact hA.yD k hk h1
        · have := hlt k (Or.inr hk); omega
      · rcases hvl k hv with h1 | h1
        · exact hA.xl k h1 hk
        · have := hlt k (Or.inl hk); omega
      · rcases hvl k hv with h1 | h1
        · exact hA.yl k h1 hk
        · have := hlt k (Or.inr hk); omega
      · rcases hvm k hv with h1 | h1
        · exact hA.xm k h1 hk
        · have := hlt k (Or.inl hk); omega
      · rcases hvm k hv with h1 | h1
        · exact hA.ym k h1 hk
        · have := hlt k (Or.inr hk); omega
  · intro a b ha hb hne k hka hkb
    rw [List.length_set] at ha hb
    rw [List.getElem_set] at hka hkb
    split at hka
    · rename_i e1
      split at hkb
      · omega
      · rename_i e2
        rcases hf' k hka with h1 | h1
        · exact h.two i b hi hb e2 k h1 hkb
        · have := hfl b hb k hkb; omega
    · rename_i e1
      split at hkb
      · rcases hf' k hkb with h1 | h1
        · exact h.two a i ha hi (fun e => e1 e.symm) k hka h1
        · have := hfl a ha k hka; omega
      · exact h.two a b ha hb hne k hka hkb
  · refine ⟨hfr.os.trans h.base.os, hfr.tape.trans h.base.tape, hfr.output.trans h.base.output, by have := h.base.size; omega, fun k hk => ?_⟩
    have hb0 := h.base.size
    rw [hfr.block k (by omega) (fun hh => ?_), h.base.block k hk]
    rcases hh with hh | hh | hh | hh | hh
    · have := h.loE i hi k (Or.inl hh); omega
    · have := h.loE i hi k (Or.inr hh); omega
    · have := h.loB; omega
    · have := h.lol k hh; omega
    · have := h.lom k hh; omega
  · intro k hk
    rcases hvl k hk with h1 | h1
    · exact h.lol k h1
    · have := h.base.size; omega
  · intro k hk
    rcases hvm k hk with h1 | h1
    · exact h.lom k h1
    · have := h.base.size; omega
  · intro k hk
    rcases hD k hk with h1 | h1
    · exact h.loD k h1
    · have := h.base.size; omega
  · intro j hj k hk
    rw [List.length_set] at hj
    rw [List.getElem_set] at hk
    split at hk
    · rcases hf' k hk with h1 | h1
      · exact h.loE i hi k h1
      · have := h.base.size; omega
    · exact h.loE j hj k hk
end

end Go.Proofs.YtocbogeoffeolaaGreatDoor
