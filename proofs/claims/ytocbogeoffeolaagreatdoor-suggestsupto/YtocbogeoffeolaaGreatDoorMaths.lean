/-
  PLAIN MATHEMATICS of the program's words: pieces of a text, known words, the best of what is left, runs, scores, what the sort gives.
-/
import Derived.Test.YtocbogeoffeolaaGreatDoorPick
import Derived.Lib.FieldsP
import Derived.Laws.RangeString
import Derived.Lib.Bytealg
import Derived.Sort.Statements
import Derived.Shelf.SlSortCmp.Insertion
namespace Go.Proofs.YtocbogeoffeolaaGreatDoor
open Go.RowKit

/-- Is a rune none of a word? -/
def apartR (r : Nat) : Bool := decide (128 ≤ r) || !letterB (UInt8.ofNat r)
theorem apartR_byte (c : UInt8) (h : c.toNat < 128) : apartR c.toNat = !letterB c := by
  unfold apartR
  rw [decide_eq_false (by omega), Bool.false_or]
  simp

def wdA (b : Wd) : ByteArray := ⟨b.toArray⟩

/-- What is known on the way. -/
structure FInv (f : ByteArray) (pos : Nat) (st : Option Nat) (acc : List (Nat × Nat)) : Prop where
  none : st = none → (acc.map fun x => f.extract x.1 x.2) = (wordsTo f.data.toList pos).map wdA ∧ (pos = 0 ∨ letterB (f.data.toList.getD (pos - 1) 0) = false)
  some : ∀ a, st = some a → (acc.map fun x => f.extract x.1 x.2) ++ [wdA (wordAt f.data.toList a)] = (wordsTo f.data.toList pos).map wdA ∧ a < pos ∧ runTo f.data.toList a pos

theorem starts_no (l : List UInt8) (k : Nat) (h : letterB (l.getD k 0) = false) : startsL l k = false := by unfold startsL; rw [h]; rfl
theorem starts_yes (l : List UInt8) (k : Nat) (h : letterB (l.getD k 0) = true) (h2 : k = 0 ∨ letterB (l.getD (k - 1) 0) = false) : startsL l k = true := by
  unfold startsL
  rw [h]
  rcases h2 with h2 | h2
  · simp [h2]
  · rw [h2]; simp
theorem starts_in (l : List UInt8) (k a : Nat) (h0 : a < k) (h : runTo l a k) : startsL l k = false := by
  unfold startsL
  rw [h.2.2 (k - 1) (by omega) (by omega), decide_eq_false (by omega)]
  simp

theorem fields_from (f : ByteArray) (hf : ∀ k (h : k < f.size), (f[k]'h).toNat < 128) : ∀ (g pos : Nat) (st : Option Nat) (acc : List (Nat × Nat)), FInv f pos st acc → pos ≤ f.size → f.size ≤ pos + g →
    ((Lib.closeSpans f (Lib.spansFromP apartR f g pos st acc)).map fun x => f.extract x.1 x.2) = (wordsL f.data.toList).map wdA := by
  intro g
  induction g with
  | zero =>
    intro pos st acc h h1 h2
    obtain rfl : pos = f.size := by omega
    have hw : wordsL f.data.toList = wordsTo f.data.toList f.size := by unfold wordsL; simp
    rw [hw]
    cases st with
    | none => simpa [Lib.spansFromP, Lib.closeSpans] using (h.none rfl).1
    | some a =>
      obtain ⟨e, ha, hr⟩ := h.some a rfl
      simp only [Lib.spansFromP, Lib.closeSpans, List.map_append, List.map_cons, List.map_nil]
      rw [extract_word f a f.size hr (Or.inl rfl)]
      exact e
  | succ g ih =>
    intro pos st acc h h1 h2
    unfold Lib.spansFromP
    by_cases hlt : pos < f.size
    · rw [if_pos hlt, decode_ascii f pos hlt (hf pos hlt), apartR_byte _ (hf pos hlt)]
      have hg := getD_get f pos hlt
      simp only
      by_cases hl : letterB (f[pos]'hlt) = true
      · rw [hl]
        simp only [Bool.not_true, Bool.false_eq_true, if_false]
        have hl' : letterB (f.data.toList.getD pos 0) = true := by rw [hg]; exact hl
        cases st with
        | none =>
          obtain ⟨e, hp⟩ := h.none rfl
          refine ih _ _ _ ⟨fun h => (by cases h), fun a ha => ?_⟩ (by omega) (by omega)
          obtain rfl : pos = a := by simpa using ha
          have hs := starts_yes _ _ hl' hp
          rw [wordsTo_succ_yes _ _ hs, List.map_append, e]
          exact ⟨rfl, by omega, runTo_more _ _ _ (runTo_start _ _ (by simp; omega)) (by simpa using hlt) hl'⟩
        | some a =>
          obtain ⟨e, ha, hr⟩ := h.some a rfl
          refine ih _ _ _ ⟨fun h => (by cases h), fun b hb => ?_⟩ (by omega) (by omega)
          obtain rfl : a = b := by simpa using hb
          rw [wordsTo_succ_no _ _ (starts_in _ _ _ ha hr)]
          exact ⟨e, by omega, runTo_more _ _ _ hr (by simpa using hlt) hl'⟩
      · have hl0 : letterB (f[pos]'hlt) = false := by simpa using hl
        rw [hl0]
        simp only [Bool.not_false, if_true]
        have hl' : letterB (f.data.toList.getD pos 0) = false := by rw [hg]; exact hl0
        cases st with
        | none =>
          obtain ⟨e, hp⟩ := h.none rfl
          refine ih _ _ _ ⟨fun _ => ?_, fun a ha => (by cases ha)⟩ (by omega) (by omega)
          rw [wordsTo_succ_no _ _ (starts_no _ _ hl')]
          exact ⟨e, Or.inr (by simpa using hl')⟩
        | some a =>
          obtain ⟨e, ha, hr⟩ := h.some a rfl
          refine ih _ _ _ ⟨fun _ => ?_, fun a ha => (by cases ha)⟩ (by omega) (by omega)
          rw [wordsTo_succ_no _ _ (starts_no _ _ hl'), ← e, List.map_append]
          refine ⟨?_, Or.inr (by simpa using hl')⟩
          simp only [List.map_cons, List.map_nil]
          rw [extract_word f a pos hr (Or.inr hl')]
          rfl
    · rw [if_neg hlt]
      have := ih pos st acc h h1 (by omega)
      rw [Lib.spansFromP_end _ _ _ _ _ _ hlt] at this
      exact this

/-- The pieces are the words. -/
theorem fields_words (f : ByteArray) (hf : ∀ k (h : k < f.size), (f[k]'h).toNat < 128) : Lib.goFieldsP apartR f = (wordsL f.data.toList).map wdA := by
  unfold Lib.goFieldsP Lib.spansOfP
  refine fields_from f hf f.size 0 none [] ⟨fun _ => ⟨by simp [wordsTo], Or.inl rfl⟩, fun a ha => (by cases ha)⟩ (by omega) (by omega)
theorem map_strings (ws : List Wd) : (ws.map wdA).map Value.string = strVals ws := by simp [strVals, wdA]

end Go.Proofs.YtocbogeoffeolaaGreatDoor

namespace Go.Proofs.YtocbogeoffeolaaGreatDoor
open Go.RowKit

theorem bl_irrefl : ∀ x : Wd, Op.bytesLess x x = false := by
  intro x
  induction x with
  | nil => rfl
  | cons a x ih => simp [Op.bytesLess, ih]
theorem u8_lt_trans {a b c : UInt8} (h : a < b) (k : b < c) : a < c := by
  rw [UInt8.lt_iff_toNat_lt] at *; omega
theorem bl_trans : ∀ x y z : Wd, Op.bytesLess x y = true → Op.bytesLess y z = true → Op.bytesLess x z = true := by
  intro x
  induction x with
  | nil => intro y z h1 h2; cases z with
    | nil => cases y <;> simp [Op.bytesLess] at h2
    | cons => rfl
  | cons a x ih =>
    intro y z h1 h2
    cases y with
    | nil => simp [Op.bytesLess] at h1
    | cons b y =>
      cases z with
      | nil => simp [Op.bytesLess] at h2
      | cons c z =>
        simp only [Op.bytesLess, Bool.or_eq_true, Bool.and_eq_true, decide_eq_true_eq, beq_iff_eq] at *
        rcases h1 with h1 | ⟨rfl, h1⟩
        · rcases h2 with h2 | ⟨rfl, h2⟩
          · exact Or.inl (u8_lt_trans h1 h2)
          · exact Or.inl h1
        · rcases h2 with h2 | ⟨rfl, h2⟩
          · exact Or.inl h2
          · exact Or.inr ⟨rfl, ih y z h1 h2⟩
theorem bl_total : ∀ x y : Wd, Op.bytesLess x y = true ∨ x = y ∨ Op.bytesLess y x = true := by
  intro x
  induction x with
  | nil => intro y; cases y with
    | nil => exact Or.inr (Or.inl rfl)
    | cons => exact Or.inl rfl
  | cons a x ih =>
    intro y
    cases y with
    | nil => exact Or.inr (Or.inr rfl)
    | cons b y =>
      simp only [Op.bytesLess, Bool.or_eq_true, Bool.and_eq_true, decide_eq_true_eq, beq_iff_eq]
      by_cases h1 : a < b
      · exact Or.inl (Or.inl h1)
      · by_cases h2 : b < a
        · exact Or.inr (Or.inr (Or.inl h2))
        · obtain rfl : a = b := by
            apply UInt8.toNat_inj.1
            rw [UInt8.lt_iff_toNat_lt] at h1 h2
            omega
          rcases ih y with h | h | h
          · exact Or.inl (Or.inr ⟨rfl, h⟩)
          · exact Or.inr (Or.inl (by rw [h]))
          · exact Or.inr (Or.inr (Or.inr ⟨rfl, h⟩))
theorem bl_ne {x y : Wd} (h : Op.bytesLess x y = true) : x ≠ y := by
  intro e; subst e; rw [bl_irrefl] at h; cases h
theorem bl_asym {x y : Wd} (h : Op.bytesLess x y = true) : Op.bytesLess y x = false := by
  cases hh : Op.bytesLess y x with
  | false => rfl
  | true => have := bl_trans _ _ _ h hh; rw [bl_irrefl] at this; cases this

abbrev Sorted (l : List Wd) : Prop := l.Pairwise fun x y => Op.bytesLess x y = true

theorem Sorted.nodup {l : List Wd} (h : Sorted l) : l.Nodup := h.imp fun hh => bl_ne hh

theorem take_at (out : List Wd) (x : Wd) : out.take (atOf out x) = out.takeWhile fun y => Op.bytesLess y x := by
  unfold atOf
  induction out with
  | nil => simp
  | cons a l ih =>
    rw [List.takeWhile_cons]
    split
    · simp only [List.length_cons, List.take_succ_cons, ih]
    · simp
theorem drop_at (out : List Wd) (x : Wd) : out.drop (atOf out x) = out.dropWhile fun y => Op.bytesLess y x := by
  unfold atOf
  induction out with
  | nil => simp
  | cons a l ih =>
    rw [List.takeWhile_cons, List.dropWhile_cons]
    split
    · simp only [List.length_cons, List.drop_succ_cons, ih]
    · simp

theorem takeWhile_all {p : Wd → Bool} : ∀ (l : List Wd), ∀ y ∈ l.takeWhile p, p y = true := by
  intro l
  induction l with
  | nil => intro y h; simp at h
  | cons a l ih =>
    intro y h
    rw [List.takeWhile_cons] at h
    split at h
    · rename_i ha
      rcases List.mem_cons.1 h with rfl | h
      · exact ha
      · exact ih y h
    · simp at h
theorem dropWhile_head {p : Wd → Bool} : ∀ (l : List Wd) (y : Wd) (r : List Wd), l.dropWhile p = y :: r → p y = false := by
  intro l
  induction l with
  | nil => intro y r h; simp at h
  | cons a l ih =>
    intro y r h
    rw [List.dropWhile_cons] at h
    split at h
    · exact ih y r h
    · rename_i ha
      cases h
      simpa using ha
theorem insW_ok (out : List Wd) (x : Wd) (h : Sorted out) : Sorted (insW out x) ∧ ∀ y, y ∈ insW out x ↔ (y = x ∨ y ∈ out) := by
  unfold insW
  split
  · rename_i hx
    refine ⟨h, fun y => ⟨Or.inr, fun hy => ?_⟩⟩
    rcases hy with rfl | hy
    · exact List.mem_of_getElem? hx
    · exact hy
  · rename_i hx
    have hcat := List.take_append_drop (atOf out x) out
    have hgd : out[atOf out x]? = (out.drop (atOf out x))[0]? := by simp
    rw [hgd] at hx
    rw [take_at, drop_at] at hcat ⊢
    rw [drop_at] at hx
    have hA := takeWhile_all (p := fun y => Op.bytesLess y x) out
    have hH := dropWhile_head (p := fun y => Op.bytesLess y x) out
    generalize out.takeWhile (fun y => Op.bytesLess y x) = A at *
    generalize out.dropWhile (fun y => Op.bytesLess y x) = B at *
    subst hcat
    obtain ⟨sA, sB, sAB⟩ := List.pairwise_append.1 h
    have hB : ∀ y ∈ B, Op.bytesLess x y = true := by
      cases B with
      | nil => intro y hy; simp at hy
      | cons b B =>
        have h1 := hH b B rfl
        have hxb : Op.bytesLess x b = true := by
          rcases bl_total x b with h | h | h
          · exact h
          · subst h; simp at hx
          · rw [h1] at h; cases h
        intro y hy
        rcases List.mem_cons.1 hy with rfl | hy
        · exact hxb
        · exact bl_trans _ _ _ hxb ((List.pairwise_cons.1 sB).1 y hy)
    refine ⟨?_, fun y => ?_⟩
    · refine List.pairwise_append.2 ⟨sA, ?_, ?_⟩
      · exact List.pairwise_cons.2 ⟨hB, sB⟩
      · intro a ha b hb
        rcases List.mem_cons.1 hb with rfl | hb
        · exact hA a ha
        · exact sAB a ha b hb
    · simp only [List.mem_append, List.mem_cons, List.cons_append, List.nil_append]
      constructor
      · rintro (h | h | h)
        · exact Or.inr (Or.inl h)
        · exact Or.inl h
        · exact Or.inr (Or.inr h)
      · rintro (h | h | h)
        · exact Or.inr (Or.inl h)
        · exact Or.inl h
        · exact Or.inr (Or.inr h)
theorem foldl_ins_ok (t : List Wd) : ∀ out, Sorted out → Sorted (t.foldl insW out) ∧ ∀ y, y ∈ t.foldl insW out ↔ (y ∈ t ∨ y ∈ out) := by
  induction t with
  | nil => intro out h; exact ⟨h, by simp⟩
  | cons x t ih =>
    intro out h
    obtain ⟨h1, h2⟩ := insW_ok out x h
    obtain ⟨h3, h4⟩ := ih _ h1
    refine ⟨h3, fun y => ?_⟩
    rw [List.foldl_cons, h4, h2, List.mem_cons]
    constructor
    · rintro (h | h | h)
      · exact Or.inl (Or.inr h)
      · exact Or.inl (Or.inl h)
      · exact Or.inr h
    · rintro ((h | h) | h)
      · exact Or.inr (Or.inl h)
      · exact Or.inl h
      · exact Or.inr (Or.inr h)
theorem known_gen (ts : List (List Wd)) : ∀ out, Sorted out → Sorted (ts.foldl (fun out t => t.foldl insW out) out) ∧ ∀ y, y ∈ ts.foldl (fun out t => t.foldl insW out) out ↔ ((∃ t ∈ ts, y ∈ t) ∨ y ∈ out) := by
  induction ts with
  | nil => intro out h; exact ⟨h, by simp⟩
  | cons t ts ih =>
    intro out h
    obtain ⟨h1, h2⟩ := foldl_ins_ok t out h
    obtain ⟨h3, h4⟩ := ih _ h1
    refine ⟨h3, fun y => ?_⟩
    rw [List.foldl_cons, h4, h2]
    simp only [List.mem_cons, exists_eq_or_imp]
    constructor
    · rintro (h | h | h)
      · exact Or.inl (Or.inr h)
      · exact Or.inl (Or.inl h)
      · exact Or.inr h
    · rintro ((h | h) | h)
      · exact Or.inr (Or.inl h)
      · exact Or.inl h
      · exact Or.inr (Or.inr h)
theorem knownL_sorted (ts : List (List Wd)) : Sorted (knownL ts) := (known_gen ts [] List.Pairwise.nil).1
theorem knownL_mem (ts : List (List Wd)) (y : Wd) : y ∈ knownL ts ↔ ∃ t ∈ ts, y ∈ t := by
  have := (known_gen ts [] List.Pairwise.nil).2 y
  simpa [knownL] using this

theorem count_nodup {l : List Wd} (h : l.Nodup) (a : Wd) : l.count a = if a ∈ l then 1 else 0 := by
  induction l with
  | nil => simp
  | cons b l ih =>
    obtain ⟨h1, h2⟩ := List.nodup_cons.1 h
    rw [List.count_cons, ih h2]
    by_cases e : b = a
    · subst e; simp [h1]
    · have e2 : ¬ a = b := fun x => e x.symm
      simp [e, e2]
theorem perm_of_same {l l' : List Wd} (h : l.Nodup) (h' : l'.Nodup) (hm : ∀ a, a ∈ l ↔ a ∈ l') : l.Perm l' := by
  rw [List.perm_iff_count]
  intro a
  rw [count_nodup h, count_nodup h']
  by_cases ha : a ∈ l
  · rw [if_pos ha, if_pos ((hm a).1 ha)]
  · rw [if_neg ha, if_neg (fun x => ha ((hm a).2 x))]

/-- The words of a text that were not known: each once, as they come. -/
def newTo (kn : List Wd) (t : List Wd) (k : Nat) : List Wd := (t.take k).foldl (fun u x => if x ∈ kn ∨ x ∈ u then u else u ++ [x]) []
theorem newTo_succ (kn t : List Wd) (k : Nat) (h : k < t.length) : newTo kn t (k + 1) = if t[k] ∈ kn ∨ t[k] ∈ newTo kn t k then newTo kn t k else newTo kn t k ++ [t[k]] := by
  unfold newTo
  rw [List.take_succ_eq_append_getElem h, List.foldl_append]; rfl
theorem newTo_ok (kn t : List Wd) : ∀ k, k ≤ t.length → (newTo kn t k).Nodup ∧ (∀ y, y ∈ newTo kn t k ↔ (y ∈ t.take k ∧ y ∉ kn)) ∧ (newTo kn t k).length ≤ k := by
  intro k
  induction k with
  | zero => intro _; simp [newTo]
  | succ k ih =>
    intro hk
    obtain ⟨h1, h2, h3⟩ := ih (by omega)
    rw [newTo_succ kn t k (by omega), List.take_succ_eq_append_getElem (by omega)]
    split
    · rename_i hc
      refine ⟨h1, fun y => ?_, by omega⟩
      rw [h2 y, List.mem_append, List.mem_singleton]
      constructor
      · rintro ⟨a, b⟩; exact ⟨Or.inl a, b⟩
      · rintro ⟨a | a, b⟩
        · exact ⟨a, b⟩
        · subst a
          rcases hc with hc | hc
          · exact absurd hc b
          · exact (h2 _).1 hc
    · rename_i hc
      refine ⟨?_, fun y => ?_, by simp; omega⟩
      · rw [List.nodup_append]
        refine ⟨h1, by simp, ?_⟩
        intro a ha b hb
        simp at hb
        subst hb
        intro e
        subst e
        exact hc (Or.inr ha)
      · rw [List.mem_append, List.mem_singleton, h2 y, List.mem_append, List.mem_singleton]
        constructor
        · rintro (⟨a, b⟩ | a)
          · exact ⟨Or.inl a, b⟩
          · subst a; exact ⟨Or.inr rfl, fun x => hc (Or.inl x)⟩
        · rintro ⟨a | a, b⟩
          · exact Or.inl ⟨a, b⟩
          · exact Or.inr a
/-- The words that the program keeps, and those that are known: the same. -/
theorem known_next (kn : List Wd) (ts : List (List Wd)) (t : List Wd) (h : kn.Perm (knownL ts)) : (kn ++ newTo kn t t.length).Perm (knownL (ts ++ [t])) := by
  obtain ⟨h1, h2, _⟩ := newTo_ok kn t t.length (Nat.le_refl _)
  have hnd : kn.Nodup := h.nodup_iff.2 (knownL_sorted ts).nodup
  refine perm_of_same ?_ (knownL_sorted _).nodup ?_
  · rw [List.nodup_append]
    refine ⟨hnd, h1, fun a ha b hb e => ?_⟩
    subst e
    exact ((h2 _).1 hb).2 ha
  · intro a
    rw [List.mem_append, h2, knownL_mem, h.mem_iff, knownL_mem, List.take_length]
    constructor
    · rintro (⟨t', ht', ha⟩ | ⟨ha, _⟩)
      · exact ⟨t', by simp [ht'], ha⟩
      · exact ⟨t, by simp, ha⟩
    · rintro ⟨t', ht', ha⟩
      rw [List.mem_append, List.mem_singleton] at ht'
      rcases ht' with ht' | rfl
      · exact Or.inl ⟨t', ht', ha⟩
      · by_cases hk : a ∈ kn
        · exact Or.inl ((knownL_mem ts a).1 (h.mem_iff.1 hk))
        · exact Or.inr ⟨ha, fun e => hk (h.mem_iff.2 ((knownL_mem ts a).2 e))⟩

end Go.Proofs.YtocbogeoffeolaaGreatDoor

namespace Go.Proofs.YtocbogeoffeolaaGreatDoor
open Go.RowKit

/-- One fraction is greater than another. -/
def gtF (x y : Fr) : Bool := decide (y.1 * x.2 < x.1 * y.2)
theorem gtF_trans {x y z : Fr} (hz : 0 < z.2) (h1 : gtF x y = true) (h2 : gtF y z = true) : gtF x z = true := by
  unfold gtF at *
  simp only [decide_eq_true_eq] at *
  have a1 : y.1 * x.2 * z.2 < x.1 * y.2 * z.2 := Nat.mul_lt_mul_of_pos_right h1 hz
  by_cases hx : 0 < x.2
  · have a2 : z.1 * y.2 * x.2 < y.1 * z.2 * x.2 := Nat.mul_lt_mul_of_pos_right h2 hx
    refine Nat.lt_of_mul_lt_mul_right (a := y.2) ?_
    have e1 : z.1 * x.2 * y.2 = z.1 * y.2 * x.2 := by rw [Nat.mul_right_comm]
    have e2 : y.1 * z.2 * x.2 = y.1 * x.2 * z.2 := by rw [Nat.mul_right_comm]
    have e3 : x.1 * z.2 * y.2 = x.1 * y.2 * z.2 := by rw [Nat.mul_right_comm]
    omega
  · have hx0 : x.2 = 0 := by omega
    have hx1 : 0 < x.1 := by
      rcases Nat.eq_zero_or_pos x.1 with h | h
      · rw [h] at h1; simp at h1
      · exact h
    rw [hx0]
    simpa using Nat.mul_pos hx1 hz
theorem leF_trans {x y z : Fr} (hx : 0 < x.2) (hy : 0 < y.2) (hz : 0 < z.2) (h1 : gtF y x = false) (h2 : gtF z y = false) : gtF z x = false := by
  unfold gtF at *
  simp only [decide_eq_false_iff_not, Nat.not_lt] at *
  have a1 : y.1 * x.2 * z.2 ≤ x.1 * y.2 * z.2 := Nat.mul_le_mul_right _ h1
  have a2 : z.1 * y.2 * x.2 ≤ y.1 * z.2 * x.2 := Nat.mul_le_mul_right _ h2
  have _ := hx
  have _ := hz
  refine Nat.le_of_mul_le_mul_right (c := y.2) ?_ hy
  have e1 : z.1 * x.2 * y.2 = z.1 * y.2 * x.2 := by rw [Nat.mul_right_comm]
  have e2 : y.1 * z.2 * x.2 = y.1 * x.2 * z.2 := by rw [Nat.mul_right_comm]
  have e3 : x.1 * z.2 * y.2 = x.1 * y.2 * z.2 := by rw [Nat.mul_right_comm]
  omega
theorem gtF_asym {x y : Fr} (h : gtF x y = true) : gtF y x = false := by
  unfold gtF at *
  simp only [decide_eq_true_eq, decide_eq_false_iff_not] at *
  omega

/-- Which of two words comes first. -/
def befW (sc : Wd → Fr) (x y : Wd) : Bool := gtF (sc x) (sc y) || (!gtF (sc y) (sc x) && Op.bytesLess x y)
theorem befW_irrefl (sc : Wd → Fr) (x : Wd) : befW sc x x = false := by
  unfold befW
  rw [bl_irrefl]
  have : gtF (sc x) (sc x) = false := by unfold gtF; simp
  rw [this]; rfl
theorem befW_trans (sc : Wd → Fr) {x y z : Wd} (hx : 0 < (sc x).2) (hy : 0 < (sc y).2) (hz : 0 < (sc z).2) (h1 : befW sc x y = true) (h2 : befW sc y z = true) : befW sc x z = true := by
  unfold befW at *
  simp only [Bool.or_eq_true, Bool.and_eq_true, Bool.not_eq_true'] at *
  rcases h1 with h1 | ⟨h1, h1'⟩
  · rcases h2 with h2 | ⟨h2, h2'⟩
    · exact Or.inl (gtF_trans hz h1 h2)
    · cases hh : gtF (sc x) (sc z) with
      | true => exact Or.inl rfl
      | false =>
        have := leF_trans hy hz hx h2 hh
        rw [this] at h1; cases h1
  · rcases h2 with h2 | ⟨h2, h2'⟩
    · cases hh : gtF (sc x) (sc z) with
      | true => exact Or.inl rfl
      | false =>
        have := leF_trans hz hx hy hh h1
        rw [this] at h2; cases h2
    · exact Or.inr ⟨leF_trans hx hy hz h1 h2, bl_trans _ _ _ h1' h2'⟩
theorem befW_total (sc : Wd → Fr) (x y : Wd) : befW sc x y = true ∨ x = y ∨ befW sc y x = true := by
  unfold befW
  simp only [Bool.or_eq_true, Bool.and_eq_true, Bool.not_eq_true']
  cases h1 : gtF (sc x) (sc y) with
  | true => exact Or.inl (Or.inl rfl)
  | false =>
    cases h2 : gtF (sc y) (sc x) with
    | true => exact Or.inr (Or.inr (Or.inl rfl))
    | false =>
      rcases bl_total x y with h | h | h
      · exact Or.inl (Or.inr ⟨rfl, h⟩)
      · exact Or.inr (Or.inl h)
      · exact Or.inr (Or.inr (Or.inr ⟨rfl, h⟩))
theorem befW_asym (sc : Wd → Fr) {x y : Wd} (h : befW sc x y = true) : befW sc y x = false := by
  unfold befW at *
  simp only [Bool.or_eq_true, Bool.and_eq_true, Bool.not_eq_true', Bool.or_eq_false_iff, Bool.and_eq_false_iff, Bool.not_eq_false'] at *
  rcases h with h | ⟨h, h'⟩
  · exact ⟨gtF_asym h, Or.inl h⟩
  · exact ⟨h, Or.inr (bl_asym h')⟩

theorem sorted_get {K : List Wd} (hK : Sorted K) {i j : Nat} (h : i < j) (hj : j < K.length) : Op.bytesLess (K[i]'(by omega)) K[j] = true := List.pairwise_iff_getElem.1 hK i j (by omega) hj h

theorem better_eq {K : List Wd} {sc : Wd → Fr} (i j : Nat) (hi : i < K.length) (hj : j < K.length) : better (K.map sc) i j = gtF (sc K[i]) (sc K[j]) := by
  unfold better gtF
  simp [List.getD_eq_getElem?_getD, hi, hj]

theorem bestTo_min {K : List Wd} {sc : Wd → Fr} (hK : Sorted K) (hp : ∀ x ∈ K, 0 < (sc x).2) (told : List Bool) : ∀ (m : Nat), m ≤ K.length → ∀ b, bestTo (K.map sc) told m = some b → ∃ hb : b < K.length, ∀ i (hi : i < K.length), i < m → told.getD i false = false → i ≠ b → befW sc K[b] K[i] = true := by
  intro m
  induction m with
  | zero => intro _ b h; simp [bestTo] at h
  | succ m ih =>
    intro hm b h
    cases ht : told.getD m false with
    | true =>
      rw [bestTo_told _ _ _ ht] at h
      obtain ⟨hb, hh⟩ := ih (by omega) b h
      refine ⟨hb, fun i hi him hti hne => ?_⟩
      by_cases e : i = m
      · subst e; rw [ht] at hti; cases hti
      · exact hh i hi (by omega) hti hne
    | false =>
      cases hbest : bestTo (K.map sc) told m with
      | none =>
        rw [bestTo_first _ _ _ ht hbest] at h
        obtain rfl : m = b := by simpa using h
        refine ⟨by omega, fun i hi him hti hne => ?_⟩
        have := bestTo_none _ _ _ hbest i (by omega)
        rw [hti] at this; cases this
      | some j =>
        obtain ⟨hj, hh⟩ := ih (by omega) j hbest
        have hjm := (bestTo_lt _ _ _ _ hbest).1
        cases hbt : better (K.map sc) m j with
        | true =>
          rw [bestTo_better _ _ _ _ ht hbest hbt] at h
          obtain rfl : m = b := by simpa using h
          refine ⟨by omega, fun i hi him hti hne => ?_⟩
          have h1 : befW sc K[m] K[j] = true := by
            rw [better_eq m j (by omega) hj] at hbt
            unfold befW; rw [hbt]; rfl
          by_cases e : i = j
          · subst e; exact h1
          · exact befW_trans sc (hp _ (List.getElem_mem _)) (hp _ (List.getElem_mem _)) (hp _ (List.getElem_mem _)) h1 (hh i hi (by omega) hti e)
        | false =>
          rw [bestTo_worse _ _ _ _ ht hbest hbt] at h
          obtain rfl : j = b := by simpa using h
          refine ⟨hj, fun i hi him hti hne => ?_⟩
          by_cases e : i = m
          · subst e
            rw [better_eq i j hi hj] at hbt
            unfold befW
            rw [hbt, sorted_get hK hjm hi]
            simp
          · exact hh i hi (by omega) hti hne

theorem picks_sorted {K : List Wd} {sc : Wd → Fr} (hK : Sorted K) (hp : ∀ x ∈ K, 0 < (sc x).2) : ∀ (k : Nat) (told : List Bool) (S : List Wd), told.length = K.length → S.Nodup → (S.Pairwise fun x y => befW sc x y = true) →
    (∀ x, x ∈ S ↔ ∃ i, ∃ hi : i < K.length, told.getD i false = false ∧ K[i] = x) → (picks (K.map sc) told k).map (fun i => K.getD i []) = S.take k := by
  intro k
  induction k with
  | zero => intro told S _ _ _ _; simp [picks]
  | succ k ih =>
    intro told S hl hnd hs hm
    cases hb : bestTo (K.map sc) told (K.map sc).length with
    | none =>
      have hall := bestTo_none _ _ _ hb
      have : S = [] := by
        cases S with
        | nil => rfl
        | cons x S =>
          obtain ⟨i, hi, h1, _⟩ := (hm x).1 (by simp)
          have := hall i (by simpa using hi)
          rw [h1] at this; cases this
      subst this
      simp only [picks, hb, List.map_nil, List.take_nil]
    | some b =>
      obtain ⟨hbl, hmin⟩ := bestTo_min hK hp told (K.map sc).length (by simp) b hb
      have hbt := (bestTo_lt _ _ _ _ hb).2
      have hbS : K[b] ∈ S := (hm _).2 ⟨b, hbl, hbt, rfl⟩
      cases S with
      | nil => simp at hbS
      | cons x S =>
        obtain ⟨hx1, hx2⟩ := List.pairwise_cons.1 hs
        obtain ⟨hn1, hn2⟩ := List.nodup_cons.1 hnd
        obtain ⟨i0, hi0, hti0, hKi0⟩ := (hm x).1 (by simp)
        have hxb : K[b] = x := by
          rcases List.mem_cons.1 hbS with h | h
          · exact h
          · by_cases e : i0 = b
            · subst e; exact hKi0
            · have h1 := hmin i0 hi0 (by simpa using hi0) hti0 e
              have h2 := hx1 _ h
              rw [hKi0] at h1
              rw [befW_asym sc h2] at h1
              cases h1
        have hi0b : i0 = b := by
          by_cases e : i0 = b
          · exact e
          · have h1 := hmin i0 hi0 (by simpa using hi0) hti0 e
            rw [hKi0, hxb, befW_irrefl] at h1
            cases h1
        simp only [picks, hb, List.map_cons, List.take_succ_cons]
        rw [ih (told.set b true) S (by simpa using hl) hn2 hx2 ?_]
        · congr 1
          rw [← hxb, List.getD_eq_getElem?_getD, List.getElem?_eq_getElem hbl]
          rfl
        · intro y
          have hset : ∀ i, (told.set b true).getD i false = if b = i then true else told.getD i false := by
            intro i
            simp only [List.getD_eq_getElem?_getD, List.getElem?_set]
            by_cases e : b = i
            · subst e; simp [show b < told.length by omega]
            · simp [e]
          constructor
          · intro hy
            obtain ⟨i, hi, h1, h2⟩ := (hm y).1 (List.mem_cons_of_mem _ hy)
            refine ⟨i, hi, ?_, h2⟩
            rw [hset]
            by_cases e : b = i
            · subst e
              rw [hxb] at h2
              subst h2
              exact absurd hy hn1
            · rw [if_neg e]; exact h1
          · rintro ⟨i, hi, h1, h2⟩
            rw [hset] at h1
            by_cases e : b = i
            · rw [if_pos e] at h1; cases h1
            · rw [if_neg e] at h1
              have hyS := (hm y).2 ⟨i, hi, h1, h2⟩
              rcases List.mem_cons.1 hyS with h | h
              · have hne : i ≠ b := fun x => e x.symm
                have := hmin i hi (by simpa using hi) h1 hne
                rw [h2, h, hxb, befW_irrefl] at this
                cases this
              · exact h

/-- What Suggest tells is the beginning of whatever is sorted so. -/
theorem suggest_sorted (ts : List (List Wd)) (l : List Wd) (most : Nat) (S : List Wd) (hp : ∀ x ∈ knownL ts, 0 < (scoreL ts l x).2) (hS : S.Perm (knownL ts)) (hs : S.Pairwise fun x y => befW (scoreL ts l) x y = true) :
    suggestL ts l most = S.take (min most (knownL ts).length) := by
  unfold suggestL
  refine picks_sorted (knownL_sorted ts) hp _ _ S (by simp) (hS.nodup_iff.2 (knownL_sorted ts).nodup) hs ?_
  intro x
  rw [hS.mem_iff]
  constructor
  · intro h
    obtain ⟨i, hi, e⟩ := List.getElem_of_mem h
    exact ⟨i, hi, by simp [List.getD_eq_getElem?_getD, hi], e⟩
  · rintro ⟨i, hi, _, e⟩
    subst e
    exact List.getElem_mem _

end Go.Proofs.YtocbogeoffeolaaGreatDoor

namespace Go.Proofs.YtocbogeoffeolaaGreatDoor
open Go.RowKit

/-- The runs that end behind so many words: three words first, none last. -/
def endRuns (t : List Wd) (e : Nat) : List (List Wd) := (List.range (min e 3 + 1)).map fun j => (t.take e).drop (e - min e 3 + j)
def runsTo (t : List Wd) : Nat → List (List Wd)
  | 0 => []
  | e + 1 => runsTo t e ++ endRuns t (e + 1)
/-- How often a run is counted. -/
def cntW (ts : List (List Wd)) (ws : List Wd) : Nat := if ws = [] then totalW ts else countL ts ws
def incW (t ws : List Wd) : Nat := if ws = [] then t.length else countIn t ws

theorem cntW_snoc (ts : List (List Wd)) (t ws : List Wd) : cntW (ts ++ [t]) ws = cntW ts ws + incW t ws := by
  unfold cntW incW
  split
  · simp [totalW]
  · simp [countL]
theorem cntW_nil (ws : List Wd) : cntW [] ws = 0 := by unfold cntW; split <;> simp [totalW, countL]

theorem count_map_range (n : Nat) (f : Nat → List Wd) (ws : List Wd) (k : Nat) (hk : k < n) (h : ∀ j, j < n → f j = ws → j = k) : ((List.range n).map f).count ws = if f k = ws then 1 else 0 := by
  have key : ∀ m, m ≤ n → ((List.range m).map f).count ws = if k < m ∧ f k = ws then 1 else 0 := by
    intro m
    induction m with
    | zero => intro _; simp
    | succ m ih =>
      intro hm
      rw [List.range_succ, List.map_append, List.count_append, ih (by omega)]
      simp only [List.map_cons, List.map_nil, List.count_singleton]
      by_cases e : m = k
      · subst e
        simp
      · have hne : f m ≠ ws := fun hh => e (h m (by omega) hh)
        simp only [beq_iff_eq, hne, if_false]
        by_cases h2 : k < m
        · simp [h2, show k < m + 1 by omega]
        · simp [h2, show ¬ k < m + 1 by omega]
  rw [key n (Nat.le_refl _)]
  simp [hk]

theorem count_none (l : List (List Wd)) (ws : List Wd) (h : ∀ x ∈ l, x ≠ ws) : l.count ws = 0 := by
  rw [List.count_eq_zero]
  intro hm
  exact h ws hm rfl

theorem endRuns_count (t ws : List Wd) (e : Nat) (he : e ≤ t.length) (hw : ws.length ≤ 3) : (endRuns t e).count ws = if ws.length ≤ e ∧ (t.take e).drop (e - ws.length) = ws then 1 else 0 := by
  have hlen : ∀ j, ((t.take e).drop (e - min e 3 + j)).length = e - (e - min e 3 + j) := by intro j; simp; omega
  by_cases hle : ws.length ≤ e
  · unfold endRuns
    rw [count_map_range (min e 3 + 1) (fun j => (t.take e).drop (e - min e 3 + j)) ws (min e 3 - ws.length) (by omega)]
    · rw [show e - min e 3 + (min e 3 - ws.length) = e - ws.length by omega]
      simp [hle]
    · intro j hj hh
      have := hlen j
      rw [hh] at this
      omega
  · rw [if_neg (by simp [hle])]
    unfold endRuns
    refine count_none _ _ (fun x hx => ?_)
    obtain ⟨j, hj, rfl⟩ := List.mem_map.1 hx
    intro hh
    have := hlen j
    rw [hh] at this
    omega

theorem runs_count (t ws : List Wd) (hw : ws.length ≤ 3) (h1 : ws ≠ []) : ∀ n, n ≤ t.length → (runsTo t n).count ws = countInTo t ws (n + 1 - ws.length) := by
  have hpos : 1 ≤ ws.length := by cases ws with | nil => exact absurd rfl h1 | cons a b => simp
  intro n
  induction n with
  | zero => intro _; rw [show 0 + 1 - ws.length = 0 by omega]; simp [runsTo, countInTo]
  | succ n ih =>
    intro hn
    simp only [runsTo]
    rw [List.count_append, ih (by omega), endRuns_count t ws (n + 1) hn hw]
    by_cases hle : ws.length ≤ n + 1
    · rw [show n + 1 + 1 - ws.length = (n + 1 - ws.length) + 1 by omega]
      have hh : hitAt t ws (n + 1 - ws.length) = decide ((t.take (n + 1)).drop (n + 1 - ws.length) = ws) := by
        unfold hitAt sameTo
        rw [List.take_length, List.drop_take, show n + 1 - (n + 1 - ws.length) = ws.length by omega]
      by_cases hc : (t.take (n + 1)).drop (n + 1 - ws.length) = ws
      · rw [if_pos ⟨hle, hc⟩, countInTo_yes _ _ _ (by rw [hh]; exact decide_eq_true hc)]
      · rw [if_neg (fun x => hc x.2), countInTo_no _ _ _ (by rw [hh]; exact decide_eq_false hc)]
        omega
    · rw [if_neg (fun x => hle x.1), show n + 1 + 1 - ws.length = 0 by omega, show n + 1 - ws.length = 0 by omega, Nat.add_zero]
theorem runs_count_nil (t : List Wd) : ∀ n, n ≤ t.length → (runsTo t n).count [] = n := by
  intro n
  induction n with
  | zero => intro _; rfl
  | succ n ih =>
    intro hn
    simp only [runsTo]
    rw [List.count_append, ih (by omega), endRuns_count t [] (n + 1) hn (by simp), if_pos ⟨by simp, by simp⟩]
theorem runs_all (t ws : List Wd) (hw : ws.length ≤ 3) : (runsTo t t.length).count ws = incW t ws := by
  unfold incW
  split
  · rename_i h; rw [h]; exact runs_count_nil t _ (Nat.le_refl _)
  · rename_i h; exact runs_count t ws hw h _ (Nat.le_refl _)

theorem cntW_le (ts : List (List Wd)) (ws : List Wd) : cntW ts ws ≤ bulkT ts := by
  unfold cntW
  split
  · exact totalW_le ts
  · exact countL_le ts ws
theorem endRuns_len (t : List Wd) (e : Nat) : (endRuns t e).length = min e 3 + 1 := by simp [endRuns]
theorem endRuns_get (t : List Wd) (e j : Nat) (h : j < (endRuns t e).length) : (endRuns t e)[j] = (t.take e).drop (e - min e 3 + j) := by simp [endRuns]
theorem runsTo_len (t : List Wd) : ∀ n, (runsTo t n).length ≤ 4 * n := by
  intro n
  induction n with
  | zero => simp [runsTo]
  | succ n ih => simp only [runsTo, List.length_append, endRuns_len]; omega

end Go.Proofs.YtocbogeoffeolaaGreatDoor

namespace Go.Proofs.YtocbogeoffeolaaGreatDoor
open Go.RowKit

/-- The program's score. -/
def psc (ts : List (List Wd)) (x : Wd) : List Wd → Fr
  | [] => (cntW ts [x] * 4, cntW ts [])
  | [v] => if cntW ts [v, x] = 0 then (cntW ts [x] * 4, cntW ts []) else (cntW ts [v, x] * 10, cntW ts [v])
  | u :: v :: _ => if cntW ts [u, v, x] = 0 then (if cntW ts [v, x] = 0 then (cntW ts [x] * 4, cntW ts []) else (cntW ts [v, x] * 10, cntW ts [v])) else (cntW ts [u, v, x] * 25, cntW ts [u, v])
/-- The last two words. -/
def last2 (l : List Wd) : List Wd := l.drop (l.length - 2)

theorem last2_len (l : List Wd) : (last2 l).length ≤ 2 := by simp [last2]; omega
theorem last2_of (l : List Wd) : (l = [] ∧ last2 l = []) ∨ (l.length = 1 ∧ last2 l = [l.getD (l.length - 1) []]) ∨ (1 < l.length ∧ last2 l = [l.getD (l.length - 2) [], l.getD (l.length - 1) []]) := by
  unfold last2
  match l with
  | [] => exact Or.inl ⟨rfl, rfl⟩
  | [a] => exact Or.inr (Or.inl ⟨rfl, rfl⟩)
  | a :: b :: r =>
    refine Or.inr (Or.inr ⟨by simp, ?_⟩)
    have hl : (a :: b :: r).length = r.length + 2 := rfl
    rw [hl, show r.length + 2 - 2 = r.length by omega, show r.length + 2 - 1 = r.length + 1 by omega]
    have e1 : (a :: b :: r).drop r.length = (a :: b :: r)[r.length]'(by simp; omega) :: (a :: b :: r).drop (r.length + 1) := List.drop_eq_getElem_cons (by simp; omega)
    have e2 : (a :: b :: r).drop (r.length + 1) = (a :: b :: r)[r.length + 1]'(by simp) :: (a :: b :: r).drop (r.length + 2) := List.drop_eq_getElem_cons (by simp)
    have e3 : (a :: b :: r).drop (r.length + 2) = [] := by simp
    rw [e1, e2, e3]
    simp only [List.getD_eq_getElem?_getD]
    rw [List.getElem?_eq_getElem (by simp; omega), List.getElem?_eq_getElem (by simp)]
    rfl

/-- The two scores are of one kind. -/
def Kin (a p : Fr) : Prop := ∃ c d : Nat, (a = (c, d) ∧ p = (c * 25, d)) ∨ (a = (4 * c, 10 * d) ∧ p = (c * 10, d)) ∨ (a = (16 * c, 100 * d) ∧ p = (c * 4, d))
theorem Kin.three (c d : Nat) : Kin (c, d) (c * 25, d) := ⟨c, d, Or.inl ⟨rfl, rfl⟩⟩
theorem Kin.two (c d : Nat) : Kin (4 * c, 10 * d) (c * 10, d) := ⟨c, d, Or.inr (Or.inl ⟨rfl, rfl⟩)⟩
theorem Kin.one (c d : Nat) : Kin (16 * c, 100 * d) (c * 4, d) := ⟨c, d, Or.inr (Or.inr ⟨rfl, rfl⟩)⟩

theorem score_kin (ts : List (List Wd)) (l : List Wd) (x : Wd) : Kin (scoreL ts l x) (psc ts x (last2 l)) := by
  have n3 : ∀ u v : Wd, cntW ts [u, v, x] = countL ts [u, v, x] := fun u v => by simp [cntW]
  have n2 : ∀ u v : Wd, cntW ts [u, v] = countL ts [u, v] := fun u v => by simp [cntW]
  have n1 : ∀ u : Wd, cntW ts [u] = countL ts [u] := fun u => by simp [cntW]
  have n0 : cntW ts [] = totalW ts := by simp [cntW]
  unfold scoreL
  rcases last2_of l with ⟨rfl, e⟩ | ⟨h1, e⟩ | ⟨h2, e⟩
  · rw [e]
    simp only [List.length_nil]
    rw [if_neg (by omega), if_neg (by omega)]
    simp only [psc, n1, n0]
    exact Kin.one _ _
  · rw [e, if_neg (by omega)]
    simp only [psc, n1, n2, n0]
    unfold c2L
    by_cases hc : countL ts [l.getD (l.length - 1) [], x] = 0
    · rw [if_neg (by omega), if_pos hc]; exact Kin.one _ _
    · rw [if_pos (by omega), if_neg hc]; exact Kin.two _ _
  · rw [e]
    simp only [psc, n1, n2, n3, n0]
    unfold c3L c2L
    by_cases hc : countL ts [l.getD (l.length - 2) [], l.getD (l.length - 1) [], x] = 0
    · rw [if_neg (by omega), if_pos hc]
      by_cases hd : countL ts [l.getD (l.length - 1) [], x] = 0
      · rw [if_neg (by omega), if_pos hd]; exact Kin.one _ _
      · rw [if_pos (by omega), if_neg hd]; exact Kin.two _ _
    · rw [if_pos (by omega), if_neg hc]; exact Kin.three _ _

theorem mul_g (c g d : Nat) : c * g * d = g * (c * d) := by rw [Nat.mul_comm c g, Nat.mul_assoc]
theorem mul_m (a b c d : Nat) : a * c * (b * d) = a * b * (c * d) := Nat.mul_mul_mul_comm a c b d
theorem kin_gt {a b p q : Fr} (h1 : Kin a p) (h2 : Kin b q) : gtF p q = gtF a b := by
  unfold gtF
  rw [decide_eq_decide]
  obtain ⟨c, d, ⟨rfl, rfl⟩ | ⟨rfl, rfl⟩ | ⟨rfl, rfl⟩⟩ := h1
  · obtain ⟨c', d', ⟨rfl, rfl⟩ | ⟨rfl, rfl⟩ | ⟨rfl, rfl⟩⟩ := h2
    · simp only [mul_g]; generalize c * d' = X; generalize c' * d = Y; omega
    · simp only; rw [mul_g c' 10, mul_g c 25, Nat.mul_assoc 4, Nat.mul_left_comm c 10]; generalize c * d' = X; generalize c' * d = Y; omega
    · simp only; rw [mul_g c' 4, mul_g c 25, Nat.mul_assoc 16, Nat.mul_left_comm c 100]; generalize c * d' = X; generalize c' * d = Y; omega
  · obtain ⟨c', d', ⟨rfl, rfl⟩ | ⟨rfl, rfl⟩ | ⟨rfl, rfl⟩⟩ := h2
    · simp only; rw [mul_g c' 25, mul_g c 10, Nat.mul_assoc 4, Nat.mul_left_comm c' 10]; generalize c * d' = X; generalize c' * d = Y; omega
    · simp only; rw [mul_g c' 10, mul_g c 10, mul_m 4 10, mul_m 4 10]; generalize c * d' = X; generalize c' * d = Y; omega
    · simp only; rw [mul_g c' 4, mul_g c 10, mul_m 16 10, mul_m 4 100]; generalize c * d' = X; generalize c' * d = Y; omega
  · obtain ⟨c', d', ⟨rfl, rfl⟩ | ⟨rfl, rfl⟩ | ⟨rfl, rfl⟩⟩ := h2
    · simp only; rw [mul_g c' 25, mul_g c 4, Nat.mul_assoc 16, Nat.mul_left_comm c' 100]; generalize c * d' = X; generalize c' * d = Y; omega
    · simp only; rw [mul_g c' 10, mul_g c 4, mul_m 4 100, mul_m 16 10]; generalize c * d' = X; generalize c' * d = Y; omega
    · simp only; rw [mul_g c' 4, mul_g c 4, mul_m 16 100, mul_m 16 100]; generalize c * d' = X; generalize c' * d = Y; omega
theorem kin_pos {a p : Fr} (h : Kin a p) : 0 < p.2 ↔ 0 < a.2 := by
  obtain ⟨c, d, ⟨rfl, rfl⟩ | ⟨rfl, rfl⟩ | ⟨rfl, rfl⟩⟩ := h <;> simp

/-- A longer run that is met has its beginning met. -/
theorem hit_less (t ws : List Wd) (x : Wd) (k : Nat) (h : hitAt t (ws ++ [x]) k = true) : hitAt t ws k = true := by
  unfold hitAt sameTo at *
  simp only [decide_eq_true_eq, List.take_length] at *
  have := congrArg (List.take ws.length) h
  rw [List.take_take] at this
  simpa using this
theorem countIn_pos {t ws : List Wd} (h : 0 < countIn t ws) : ∃ k, k + ws.length ≤ t.length ∧ hitAt t ws k = true := by
  unfold countIn countInTo at h
  obtain ⟨k, hk⟩ := List.exists_mem_of_length_pos h
  obtain ⟨h1, h2⟩ := List.mem_filter.1 hk
  have := List.mem_range.1 h1
  exact ⟨k, by omega, h2⟩
theorem pos_countIn {t ws : List Wd} {k : Nat} (hk : k + ws.length ≤ t.length) (h : hitAt t ws k = true) : 0 < countIn t ws := by
  unfold countIn countInTo
  exact List.length_pos_of_mem (List.mem_filter.2 ⟨List.mem_range.2 (by omega), h⟩)
theorem sum_pos_of {α : Type} (f : α → Nat) : ∀ (l : List α), 0 < (l.map f).sum ↔ ∃ x ∈ l, 0 < f x := by
  intro l
  induction l with
  | nil => simp
  | cons a l ih =>
    simp only [List.map_cons, List.sum_cons, List.mem_cons, exists_eq_or_imp]
    constructor
    · intro h
      by_cases ha : 0 < f a
      · exact Or.inl ha
      · exact Or.inr (ih.1 (by omega))
    · rintro (h | h)
      · omega
      · have := ih.2 h; omega
theorem count_less (ts : List (List Wd)) (ws : List Wd) (x : Wd) (h : 0 < countL ts (ws ++ [x])) : 0 < countL ts ws := by
  unfold countL at *
  rw [sum_pos_of] at *
  obtain ⟨t, ht, hc⟩ := h
  obtain ⟨k, h1, h2⟩ := countIn_pos hc
  simp at h1
  exact ⟨t, ht, pos_countIn (by omega) (hit_less _ _ _ _ h2)⟩
theorem count_mem (ts : List (List Wd)) (x : Wd) : 0 < countL ts [x] ↔ ∃ t ∈ ts, x ∈ t := by
  unfold countL
  rw [sum_pos_of]
  constructor
  · rintro ⟨t, ht, hc⟩
    obtain ⟨k, h1, h2⟩ := countIn_pos hc
    refine ⟨t, ht, ?_⟩
    unfold hitAt sameTo at h2
    simp only [List.length_cons, List.length_nil, decide_eq_true_eq] at h2
    have : x ∈ (t.drop k).take (0 + 1) := by rw [h2]; simp
    exact List.mem_of_mem_drop (List.mem_of_mem_take this)
  · rintro ⟨t, ht, hx⟩
    obtain ⟨k, hk, e⟩ := List.getElem_of_mem hx
    refine ⟨t, ht, pos_countIn (k := k) (by simp; omega) ?_⟩
    unfold hitAt sameTo
    simp only [List.length_cons, List.length_nil, decide_eq_true_eq]
    rw [List.drop_eq_getElem_cons hk, e]
    rfl
theorem score_pos (ts : List (List Wd)) (l : List Wd) (x : Wd) (hx : x ∈ knownL ts) : 0 < (scoreL ts l x).2 := by
  unfold scoreL
  split
  · rename_i h; exact count_less ts [_, _] x h.2
  · split
    · rename_i h
      have := count_less ts [_] x h.2
      simp only
      omega
    · obtain ⟨t, ht, hxt⟩ := (knownL_mem ts x).1 hx
      have : 0 < totalW ts := by
        unfold totalW
        rw [sum_pos_of]
        exact ⟨t, ht, List.length_pos_of_mem hxt⟩
      simp only
      omega
theorem psc_pos (ts : List (List Wd)) (l : List Wd) (x : Wd) (hx : x ∈ knownL ts) : 0 < (psc ts x (last2 l)).2 := (kin_pos (score_kin ts l x)).2 (score_pos ts l x hx)
theorem known_cnt (ts : List (List Wd)) (x : Wd) : cntW ts [x] = 0 ↔ x ∉ knownL ts := by
  have h := count_mem ts x
  rw [knownL_mem]
  have e : cntW ts [x] = countL ts [x] := by simp [cntW]
  rw [e]
  constructor
  · intro h0 hx; have := h.2 hx; omega
  · intro hx
    rcases Nat.eq_zero_or_pos (countL ts [x]) with h0 | h0
    · exact h0
    · exact absurd (h.1 h0) hx
theorem psc_le (ts : List (List Wd)) (x : Wd) (l : List Wd) : (psc ts x l).1 ≤ 25 * bulkT ts ∧ (psc ts x l).2 ≤ bulkT ts := by
  have h := cntW_le ts
  match l with
  | [] => have := h [x]; have := h []; simp only [psc]; omega
  | [v] =>
    have := h [x]; have := h []; have := h [v, x]; have := h [v]
    simp only [psc]
    split <;> simp only <;> omega
  | u :: v :: _ =>
    have := h [x]; have := h []; have := h [v, x]; have := h [v]; have := h [u, v, x]; have := h [u, v]
    simp only [psc]
    split
    · split <;> simp only <;> omega
    · simp only; omega

end Go.Proofs.YtocbogeoffeolaaGreatDoor

namespace Go.Proofs.YtocbogeoffeolaaGreatDoor
open Go.RowKit Go.Sort Go.Shelf

/-- The score that the sort sees, of whatever word: of no known word a nought. -/
def scP (ts : List (List Wd)) (l : List Wd) (x : Wd) : Fr := if x ∈ knownL ts then psc ts x (last2 l) else (0, 1)
theorem scP_in (ts : List (List Wd)) (l : List Wd) (x : Wd) (h : x ∈ knownL ts) : scP ts l x = psc ts x (last2 l) := by unfold scP; rw [if_pos h]
theorem scP_pos (ts : List (List Wd)) (l : List Wd) (x : Wd) : 0 < (scP ts l x).2 := by
  unfold scP
  split
  · rename_i h; exact psc_pos ts l x h
  · exact Nat.one_pos
theorem scP_le (ts : List (List Wd)) (l : List Wd) (x : Wd) : (scP ts l x).1 ≤ 25 * bulkT ts ∧ (scP ts l x).2 ≤ bulkT ts + 1 := by
  unfold scP
  split
  · have := psc_le ts x (last2 l); omega
  · simp only; omega

def cmpN (a b : Nat) : Int := if a < b then -1 else if b < a then 1 else 0
/-- What the program's comparison hands back. -/
def cfW (sc : Wd → Fr) (x y : Wd) : Int := if cmpN ((sc y).1 * (sc x).2) ((sc x).1 * (sc y).2) ≠ 0 then cmpN ((sc y).1 * (sc x).2) ((sc x).1 * (sc y).2) else Lib.compareBytes x y

theorem cmpB_lt : ∀ x y : Wd, (Lib.compareBytes x y < 0) ↔ Op.bytesLess x y = true := by
  intro x
  induction x with
  | nil => intro y; cases y <;> simp [Lib.compareBytes, Op.bytesLess]
  | cons a x ih =>
    intro y
    cases y with
    | nil => simp [Lib.compareBytes, Op.bytesLess]
    | cons b y =>
      unfold Lib.compareBytes Op.bytesLess
      by_cases h1 : a < b
      · simp [h1]
      · by_cases h2 : b < a
        · have hne : a ≠ b := by
            intro e; subst e
            exact h1 h2
          simp [h1, h2, hne]
        · have he : a = b := by
            apply UInt8.toNat_inj.1
            rw [UInt8.lt_iff_toNat_lt] at h1 h2
            omega
          subst he
          simp [h1, ih]
theorem lt_cfW (sc : Wd → Fr) (x y : Wd) : ltOf (cfW sc) x y = befW sc x y := by
  unfold ltOf cfW befW gtF cmpN
  by_cases h1 : (sc y).1 * (sc x).2 < (sc x).1 * (sc y).2
  · simp [h1]
  · by_cases h2 : (sc x).1 * (sc y).2 < (sc y).1 * (sc x).2
    · simp [h1, h2]
    · simp only [h1, h2, if_false, ne_eq, not_true_eq_false, decide_false, Bool.false_or, Bool.not_false, Bool.true_and]
      rw [Bool.eq_iff_iff, decide_eq_true_eq]
      exact cmpB_lt x y
theorem swo_cfW (ts : List (List Wd)) (l : List Wd) : SWO (ltOf (cfW (scP ts l))) where
  irrefl x := by rw [lt_cfW]; exact befW_irrefl _ x
  trans x y z h1 h2 := by rw [lt_cfW] at *; exact befW_trans _ (scP_pos ts l x) (scP_pos ts l y) (scP_pos ts l z) h1 h2
  ntrans x y z h1 h2 := by
    rw [lt_cfW] at *
    cases hh : befW (scP ts l) x z with
    | false => rfl
    | true =>
      rcases befW_total (scP ts l) x y with h | h | h
      · rw [h1] at h; cases h
      · subst h; rw [h2] at hh; cases hh
      · have := befW_trans _ (scP_pos ts l y) (scP_pos ts l x) (scP_pos ts l z) h hh
        rw [h2] at this; cases this
theorem bef_same (ts : List (List Wd)) (l : List Wd) (x y : Wd) (hx : x ∈ knownL ts) (hy : y ∈ knownL ts) : befW (scP ts l) x y = befW (scoreL ts l) x y := by
  unfold befW
  rw [scP_in ts l x hx, scP_in ts l y hy, kin_gt (score_kin ts l x) (score_kin ts l y), kin_gt (score_kin ts l y) (score_kin ts l x)]

/-- What comes out of the sort: the words that Suggest tells. -/
theorem sorted_suggest (ts : List (List Wd)) (l kn : List Wd) (most : Nat) (d' : Array Wd) (hk : kn.Perm (knownL ts)) (hp : PermIn 0 kn.toArray.size kn.toArray d') (hs : SortedIn (ltOf (cfW (scP ts l))) 0 kn.toArray.size d') :
    suggestL ts l most = d'.toList.take (min most kn.length) := by
  obtain ⟨p1, _, p3⟩ := hp
  have hperm : d'.toList.Perm (knownL ts) := by
    have e1 : d'.extract 0 kn.toArray.size = d' := by
      rw [← p1]; simp
    have e2 : kn.toArray.extract 0 kn.toArray.size = kn.toArray := by simp
    rw [e1, e2] at p3
    exact p3.trans hk
  rw [suggest_sorted ts l most d'.toList (fun x hx => score_pos ts l x hx) hperm ?_, hk.length_eq]
  rw [List.pairwise_iff_getElem]
  intro i j hi hj hij
  have hsz : d'.toList.length = kn.toArray.size := by simpa using p1
  have h := hs i j (Nat.zero_le _) hij (by omega)
  rw [lt_cfW] at h
  have gi : d'[i]! = d'.toList[i] := by
    rw [getElem!_pos d' i (by simpa using hi)]; rfl
  have gj : d'[j]! = d'.toList[j] := by
    rw [getElem!_pos d' j (by simpa using hj)]; rfl
  rw [gi, gj] at h
  have mi := hperm.mem_iff.1 (List.getElem_mem hi)
  have mj := hperm.mem_iff.1 (List.getElem_mem hj)
  rw [bef_same ts l _ _ mj mi] at h
  have hnd : d'.toList.Nodup := hperm.nodup_iff.2 (knownL_sorted ts).nodup
  rcases befW_total (scoreL ts l) d'.toList[i] d'.toList[j] with h' | h' | h'
  · exact h'
  · exfalso
    have := List.pairwise_iff_getElem.1 hnd i j hi hj hij
    exact this h'
  · rw [h] at h'; cases h'

end Go.Proofs.YtocbogeoffeolaaGreatDoor
