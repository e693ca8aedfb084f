/-
  PLAIN MATHEMATICS of the program's words: pieces of a text, known words, the best of what is left, runs, scores, what the sort gives.
  TREES, PLAIN MATHEMATICS: beginnings, the longest one of several texts, lists in the order of their names.
  TREES, PLAIN MATHEMATICS: a node as the document says it (the beginnings at which a text ends or two part), and by groups.
  TREES, PLAIN MATHEMATICS: how a packed segment is read, with all that is asked of it.
  WALKS: the program's own: how a packed segment is read: must, take, number, text, weight.
  WALKS: the program's own: how a packed segment is read: text, weight; names.
  WALKS: the program's own: IsName; what is told while a segment is read (Unpack's): nameBehind, entry, say.
  TREES, PLAIN MATHEMATICS: what is read with all that is asked of it is what is written of it.
  TREES, PLAIN MATHEMATICS: what is written is read, and all that is asked of it holds.
  WALKS: the program's own: how a packed segment is read: gone names, the entries of a node.
  WALKS: the program's own: how a packed segment is read: nodes and their children; the whole segment.
  TREES, PLAIN MATHEMATICS: the document's own reading: bytes first, then whether packing gives them again; it is the same.
  WALKS: the program's own: how a packed segment is read: the whole of it; what was damaged is caught; Unpack.
  WALKS: the program's own: guard, Each (as Unpack calls it), Unpack.
  WALKS: the document's own answer: begins, piece, three.
-/
import Derived.Test.YtocbogeoffeolaaGreatDoorSegAA
import Derived.Test.YtocbogeoffeolaaGreatDoorSegAC
import Derived.Test.YtocbogeoffeolaaGreatDoorSegAD
import Derived.Lib.FieldsP
import Derived.Laws.RangeString
import Derived.Lib.Bytealg
import Derived.Sort.Statements
import Derived.Shelf.SlSortCmp.Insertion
import Derived.BigQuiet
import Derived.Deep.RegionHeld3
import Derived.Recover
import Derived.Laws.EntriesVeiled
namespace Go.Proofs.YtocbogeoffeolaaGreatDoor
open Go.RowKit

end Go.Proofs.YtocbogeoffeolaaGreatDoor

namespace Go.Proofs.YtocbogeoffeolaaGreatDoor
open Go.RowKit

theorem bl_irrefl : ∀ x : Wd, Op.bytesLess x x = false := by
  intro x
  induction x with
  | nil => rfl
  | cons a x ih => simp [Op.bytesLess, ih]
theorem u8_lt_trans {a b c : UInt8} (h : a < b) (k : b < c) : a < c := by
  rw [UInt8.lt_iff_toNat_lt] at *; omega
theorem bl_trans : ∀ x y z : Wd, Op.bytesLess x y = true → Op.bytesLess y z = true → Op.bytesLess x z = true := by
  intro x
  induction x with
  | nil => intro y z h1 h2; cases z with
    | nil => cases y <;> simp [Op.bytesLess] at h2
    | cons => rfl
  | cons a x ih =>
    intro y z h1 h2
    cases y with
    | nil => simp [Op.bytesLess] at h1
    | cons b y =>
      cases z with
      | nil => simp [Op.bytesLess] at h2
      | cons c z =>
        simp only [Op.bytesLess, Bool.or_eq_true, Bool.and_eq_true, decide_eq_true_eq, beq_iff_eq] at *
        rcases h1 with h1 | ⟨rfl, h1⟩
        · rcases h2 with h2 | ⟨rfl, h2⟩
          · exact Or.inl (u8_lt_trans h1 h2)
          · exact Or.inl h1
        · rcases h2 with h2 | ⟨rfl, h2⟩
          · exact Or.inl h2
          · exact Or.inr ⟨rfl, ih y z h1 h2⟩
theorem bl_total : ∀ x y : Wd, Op.bytesLess x y = true ∨ x = y ∨ Op.bytesLess y x = true := by
  intro x
  induction x with
  | nil => intro y; cases y with
    | nil => exact Or.inr (Or.inl rfl)
    | cons => exact Or.inl rfl
  | cons a x ih =>
    intro y
    cases y with
    | nil => exact Or.inr (Or.inr rfl)
    | cons b y =>
      simp only [Op.bytesLess, Bool.or_eq_true, Bool.and_eq_true, decide_eq_true_eq, beq_iff_eq]
      by_cases h1 : a < b
      · exact Or.inl (Or.inl h1)
      · by_cases h2 : b < a
        · exact Or.inr (Or.inr (Or.inl h2))
        · obtain rfl : a = b := by
            apply UInt8.toNat_inj.1
            rw [UInt8.lt_iff_toNat_lt] at h1 h2
            omega
          rcases ih y with h | h | h
          · exact Or.inl (Or.inr ⟨rfl, h⟩)
          · exact Or.inr (Or.inl (by rw [h]))
          · exact Or.inr (Or.inr (Or.inr ⟨rfl, h⟩))
theorem bl_ne {x y : Wd} (h : Op.bytesLess x y = true) : x ≠ y := by
  intro e; subst e; rw [bl_irrefl] at h; cases h
theorem bl_asym {x y : Wd} (h : Op.bytesLess x y = true) : Op.bytesLess y x = false := by
  cases hh : Op.bytesLess y x with
  | false => rfl
  | true => have := bl_trans _ _ _ h hh; rw [bl_irrefl] at this; cases this

abbrev Sorted (l : List Wd) : Prop := l.Pairwise fun x y => Op.bytesLess x y = true

theorem Sorted.nodup {l : List Wd} (h : Sorted l) : l.Nodup := h.imp fun hh => bl_ne hh

theorem take_at (out : List Wd) (x : Wd) : out.take (atOf out x) = out.takeWhile fun y => Op.bytesLess y x := by
  unfold atOf
  induction out with
  | nil => simp
  | cons a l ih =>
    rw [List.takeWhile_cons]
    split
    · simp only [List.length_cons, List.take_succ_cons, ih]
    · simp
theorem drop_at (out : List Wd) (x : Wd) : out.drop (atOf out x) = out.dropWhile fun y => Op.bytesLess y x := by
  unfold atOf
  induction out with
  | nil => simp
  | cons a l ih =>
    rw [List.takeWhile_cons, List.dropWhile_cons]
    split
    · simp only [List.length_cons, List.drop_succ_cons, ih]
    · simp

theorem takeWhile_all {p : Wd → Bool} : ∀ (l : List Wd), ∀ y ∈ l.takeWhile p, p y = true := by
  intro l
  induction l with
  | nil => intro y h; simp at h
  | cons a l ih =>
    intro y h
    rw [List.takeWhile_cons] at h
    split at h
    · rename_i ha
      rcases List.mem_cons.1 h with rfl | h
      · exact ha
      · exact ih y h
    · simp at h
theorem dropWhile_head {p : Wd → Bool} : ∀ (l : List Wd) (y : Wd) (r : List Wd), l.dropWhile p = y :: r → p y = false := by
  intro l
  induction l with
  | nil => intro y r h; simp at h
  | cons a l ih =>
    intro y r h
    rw [List.dropWhile_cons] at h
    split at h
    · exact ih y r h
    · rename_i ha
      cases h
      simpa using ha
theorem insW_ok (out : List Wd) (x : Wd) (h : Sorted out) : Sorted (insW out x) ∧ ∀ y, y ∈ insW out x ↔ (y = x ∨ y ∈ out) := by
  unfold insW
  split
  · rename_i hx
    refine ⟨h, fun y => ⟨Or.inr, fun hy => ?_⟩⟩
    rcases hy with rfl | hy
    · exact List.mem_of_getElem? hx
    · exact hy
  · rename_i hx
    have hcat := List.take_append_drop (atOf out x) out
    have hgd : out[atOf out x]? = (out.drop (atOf out x))[0]? := by simp
    rw [hgd] at hx
    rw [take_at, drop_at] at hcat ⊢
    rw [drop_at] at hx
    have hA := takeWhile_all (p := fun y => Op.bytesLess y x) out
    have hH := dropWhile_head (p := fun y => Op.bytesLess y x) out
    generalize out.takeWhile (fun y => Op.bytesLess y x) = A at *
    generalize out.dropWhile (fun y => Op.bytesLess y x) = B at *
    subst hcat
    obtain ⟨sA, sB, sAB⟩ := List.pairwise_append.1 h
    have hB : ∀ y ∈ B, Op.bytesLess x y = true := by
      cases B with
      | nil => intro y hy; simp at hy
      | cons b B =>
        have h1 := hH b B rfl
        have hxb : Op.bytesLess x b = true := by
          rcases bl_total x b with h | h | h
          · exact h
          · subst h; simp at hx
          · rw [h1] at h; cases h
        intro y hy
        rcases List.mem_cons.1 hy with rfl | hy
        · exact hxb
        · exact bl_trans _ _ _ hxb ((List.pairwise_cons.1 sB).1 y hy)
    refine ⟨?_, fun y => ?_⟩
    · refine List.pairwise_append.2 ⟨sA, ?_, ?_⟩
      · exact List.pairwise_cons.2 ⟨hB, sB⟩
      · intro a ha b hb
        rcases List.mem_cons.1 hb with rfl | hb
        · exact hA a ha
        · exact sAB a ha b hb
    · simp only [List.mem_append, List.mem_cons, List.cons_append, List.nil_append]
      constructor
      · rintro (h | h | h)
        · exact Or.inr (Or.inl h)
        · exact Or.inl h
        · exact Or.inr (Or.inr h)
      · rintro (h | h | h)
        · exact Or.inr (Or.inl h)
        · exact Or.inl h
        · exact Or.inr (Or.inr h)
theorem foldl_ins_ok (t : List Wd) : ∀ out, Sorted out → Sorted (t.foldl insW out) ∧ ∀ y, y ∈ t.foldl insW out ↔ (y ∈ t ∨ y ∈ out) := by
  induction t with
  | nil => intro out h; exact ⟨h, by simp⟩
  | cons x t ih =>
    intro out h
    obtain ⟨h1, h2⟩ := insW_ok out x h
    obtain ⟨h3, h4⟩ := ih _ h1
    refine ⟨h3, fun y => ?_⟩
    rw [List.foldl_cons, h4, h2, List.mem_cons]
    constructor
    · rintro (h | h | h)
      · exact Or.inl (Or.inr h)
      · exact Or.inl (Or.inl h)
      · exact Or.inr h
    · rintro ((h | h) | h)
      · exact Or.inr (Or.inl h)
      · exact Or.inl h
      · exact Or.inr (Or.inr h)
theorem known_gen (ts : List (List Wd)) : ∀ out, Sorted out → Sorted (ts.foldl (fun out t => t.foldl insW out) out) ∧ ∀ y, y ∈ ts.foldl (fun out t => t.foldl insW out) out ↔ ((∃ t ∈ ts, y ∈ t) ∨ y ∈ out) := by
  induction ts with
  | nil => intro out h; exact ⟨h, by simp⟩
  | cons t ts ih =>
    intro out h
    obtain ⟨h1, h2⟩ := foldl_ins_ok t out h
    obtain ⟨h3, h4⟩ := ih _ h1
    refine ⟨h3, fun y => ?_⟩
    rw [List.foldl_cons, h4, h2]
    simp only [List.mem_cons, exists_eq_or_imp]
    constructor
    · rintro (h | h | h)
      · exact Or.inl (Or.inr h)
      · exact Or.inl (Or.inl h)
      · exact Or.inr h
    · rintro ((h | h) | h)
      · exact Or.inr (Or.inl h)
      · exact Or.inl h
      · exact Or.inr (Or.inr h)
theorem knownL_mem (ts : List (List Wd)) (y : Wd) : y ∈ knownL ts ↔ ∃ t ∈ ts, y ∈ t := by
  have := (known_gen ts [] List.Pairwise.nil).2 y
  simpa [knownL] using this

end Go.Proofs.YtocbogeoffeolaaGreatDoor

namespace Go.Proofs.YtocbogeoffeolaaGreatDoor
open Go.RowKit

end Go.Proofs.YtocbogeoffeolaaGreatDoor

namespace Go.Proofs.YtocbogeoffeolaaGreatDoor
open Go.RowKit

/-- How often a run is counted. -/
def cntW (ts : List (List Wd)) (ws : List Wd) : Nat := if ws = [] then totalW ts else countL ts ws
end Go.Proofs.YtocbogeoffeolaaGreatDoor

namespace Go.Proofs.YtocbogeoffeolaaGreatDoor
open Go.RowKit

/-- The last two words. -/
def last2 (l : List Wd) : List Wd := l.drop (l.length - 2)

/-- The two scores are of one kind. -/
def Kin (a p : Fr) : Prop := ∃ c d : Nat, (a = (c, d) ∧ p = (c * 25, d)) ∨ (a = (4 * c, 10 * d) ∧ p = (c * 10, d)) ∨ (a = (16 * c, 100 * d) ∧ p = (c * 4, d))
theorem Kin.three (c d : Nat) : Kin (c, d) (c * 25, d) := ⟨c, d, Or.inl ⟨rfl, rfl⟩⟩
theorem Kin.two (c d : Nat) : Kin (4 * c, 10 * d) (c * 10, d) := ⟨c, d, Or.inr (Or.inl ⟨rfl, rfl⟩)⟩
theorem Kin.one (c d : Nat) : Kin (16 * c, 100 * d) (c * 4, d) := ⟨c, d, Or.inr (Or.inr ⟨rfl, rfl⟩)⟩

theorem countIn_pos {t ws : List Wd} (h : 0 < countIn t ws) : ∃ k, k + ws.length ≤ t.length ∧ hitAt t ws k = true := by
  unfold countIn countInTo at h
  obtain ⟨k, hk⟩ := List.exists_mem_of_length_pos h
  obtain ⟨h1, h2⟩ := List.mem_filter.1 hk
  have := List.mem_range.1 h1
  exact ⟨k, by omega, h2⟩
theorem pos_countIn {t ws : List Wd} {k : Nat} (hk : k + ws.length ≤ t.length) (h : hitAt t ws k = true) : 0 < countIn t ws := by
  unfold countIn countInTo
  exact List.length_pos_of_mem (List.mem_filter.2 ⟨List.mem_range.2 (by omega), h⟩)
theorem sum_pos_of {α : Type} (f : α → Nat) : ∀ (l : List α), 0 < (l.map f).sum ↔ ∃ x ∈ l, 0 < f x := by
  intro l
  induction l with
  | nil => simp
  | cons a l ih =>
    simp only [List.map_cons, List.sum_cons, List.mem_cons, exists_eq_or_imp]
    constructor
    · intro h
      by_cases ha : 0 < f a
      · exact Or.inl ha
      · exact Or.inr (ih.1 (by omega))
    · rintro (h | h)
      · omega
      · have := ih.2 h; omega
theorem count_mem (ts : List (List Wd)) (x : Wd) : 0 < countL ts [x] ↔ ∃ t ∈ ts, x ∈ t := by
  unfold countL
  rw [sum_pos_of]
  constructor
  · rintro ⟨t, ht, hc⟩
    obtain ⟨k, h1, h2⟩ := countIn_pos hc
    refine ⟨t, ht, ?_⟩
    unfold hitAt sameTo at h2
    simp only [List.length_cons, List.length_nil, decide_eq_true_eq] at h2
    have : x ∈ (t.drop k).take (0 + 1) := by rw [h2]; simp
    exact List.mem_of_mem_drop (List.mem_of_mem_take this)
  · rintro ⟨t, ht, hx⟩
    obtain ⟨k, hk, e⟩ := List.getElem_of_mem hx
    refine ⟨t, ht, pos_countIn (k := k) (by simp; omega) ?_⟩
    unfold hitAt sameTo
    simp only [List.length_cons, List.length_nil, decide_eq_true_eq]
    rw [List.drop_eq_getElem_cons hk, e]
    rfl
theorem known_cnt (ts : List (List Wd)) (x : Wd) : cntW ts [x] = 0 ↔ x ∉ knownL ts := by
  have h := count_mem ts x
  rw [knownL_mem]
  have e : cntW ts [x] = countL ts [x] := by simp [cntW]
  rw [e]
  constructor
  · intro h0 hx; have := h.2 hx; omega
  · intro hx
    rcases Nat.eq_zero_or_pos (countL ts [x]) with h0 | h0
    · exact h0
    · exact absurd (h.1 h0) hx
end Go.Proofs.YtocbogeoffeolaaGreatDoor

namespace Go.Proofs.YtocbogeoffeolaaGreatDoor
open Go.RowKit Go.Sort Go.Shelf

end Go.Proofs.YtocbogeoffeolaaGreatDoor

namespace Go.Proofs.YtocbogeoffeolaaGreatDoor
open Go.RowKit

def keyE (e : Ent) : Wd := foldL e.text
def begB (s p : Wd) : Bool := decide (p <+: s)

theorem begB_iff (s p : Wd) : begB s p = true ↔ p <+: s := by simp [begB]
theorem begB_eq (s p : Wd) : begB s p = (decide (p.length ≤ s.length) && (s.take p.length == p)) := by
  rw [Bool.eq_iff_iff, begB_iff, Bool.and_eq_true, decide_eq_true_iff, beq_iff_eq, List.prefix_iff_eq_take]
  constructor
  · intro h; refine ⟨?_, h.symm⟩
    have := congrArg List.length h; simp at this; omega
  · intro h; exact h.2.symm

/-- The longest beginning of two. -/
def lcp2 : Wd → Wd → Wd
  | a :: u, b :: bs => if a = b then a :: lcp2 u bs else []
  | _, _ => []
theorem lcp2_left : ∀ a b : Wd, lcp2 a b <+: a
  | [], b => by cases b <;> exact List.prefix_refl _
  | a :: u, [] => List.nil_prefix
  | a :: u, b :: bs => by
    unfold lcp2
    split
    · exact List.cons_prefix_cons.2 ⟨rfl, lcp2_left u bs⟩
    · exact List.nil_prefix
theorem lcp2_right : ∀ a b : Wd, lcp2 a b <+: b
  | [], b => by cases b <;> exact List.nil_prefix
  | a :: u, [] => List.prefix_refl _
  | a :: u, b :: bs => by
    unfold lcp2
    split
    · rename_i h; subst h; exact List.cons_prefix_cons.2 ⟨rfl, lcp2_right u bs⟩
    · exact List.nil_prefix
theorem lcp2_most : ∀ (a b r : Wd), r <+: a → r <+: b → r <+: lcp2 a b
  | [], b, r, h, _ => by have := List.prefix_nil.1 h; subst this; exact List.nil_prefix
  | a :: u, [], r, _, h => by have := List.prefix_nil.1 h; subst this; exact List.nil_prefix
  | a :: u, b :: bs, [], _, _ => List.nil_prefix
  | a :: u, b :: bs, c :: r, h1, h2 => by
    have g1 := List.cons_prefix_cons.1 h1
    have g2 := List.cons_prefix_cons.1 h2
    unfold lcp2
    rw [if_pos (g1.1.symm.trans g2.1)]
    exact List.cons_prefix_cons.2 ⟨g1.1, lcp2_most u bs r g1.2 g2.2⟩

def lcpL : List Wd → Wd
  | [] => []
  | a :: u => u.foldl lcp2 a
/-- The longest beginning of all of them. -/
def IsLcp (q : Wd) (S : List Wd) : Prop := (∀ s ∈ S, q <+: s) ∧ ∀ r : Wd, (∀ s ∈ S, r <+: s) → r <+: q

theorem lcpF_is : ∀ (u : List Wd) (a : Wd), IsLcp (u.foldl lcp2 a) (a :: u)
  | [], a => ⟨fun s hs => by simp at hs; subst hs; exact List.prefix_refl _, fun r h => h a (by simp)⟩
  | b :: u, a => by
    have ih := lcpF_is u (lcp2 a b)
    refine ⟨fun s hs => ?_, fun r h => ?_⟩
    · have h0 := ih.1 (lcp2 a b) (by simp)
      simp only [List.mem_cons] at hs
      rcases hs with rfl | rfl | hs
      · exact h0.trans (lcp2_left _ _)
      · exact h0.trans (lcp2_right _ _)
      · exact ih.1 s (by simp [hs])
    · refine ih.2 r (fun s hs => ?_)
      simp only [List.mem_cons] at hs
      rcases hs with rfl | hs
      · exact lcp2_most _ _ _ (h a (by simp)) (h b (by simp))
      · exact h s (by simp [hs])
theorem lcpL_is {S : List Wd} (h : S ≠ []) : IsLcp (lcpL S) S := by
  cases S with
  | nil => exact absurd rfl h
  | cons a u => exact lcpF_is u a
theorem IsLcp.one {p q : Wd} {S : List Wd} (hp : IsLcp p S) (hq : IsLcp q S) : p = q :=
  (hq.2 p hp.1).eq_of_length (Nat.le_antisymm (hq.2 p hp.1).length_le (hp.2 q hq.1).length_le)
theorem lcpL_eq {S : List Wd} {q : Wd} (h : S ≠ []) (hq : IsLcp q S) : lcpL S = q := (lcpL_is h).one hq
theorem IsLcp.congr {q : Wd} {S T : List Wd} (h : ∀ s, s ∈ S ↔ s ∈ T) (hq : IsLcp q S) : IsLcp q T :=
  ⟨fun s hs => hq.1 s ((h s).2 hs), fun r hr => hq.2 r (fun s hs => hr s ((h s).1 hs))⟩
theorem lcpL_congr {S T : List Wd} (h : ∀ s, s ∈ S ↔ s ∈ T) : lcpL S = lcpL T := by
  by_cases e : S = []
  · subst e
    have : T = [] := by
      cases T with
      | nil => rfl
      | cons a T => exact absurd ((h a).2 (by simp)) (by simp)
    rw [this]
  · exact ((lcpL_is e).congr h).one (lcpL_is (fun e2 => by
      subst e2
      cases S with
      | nil => exact e rfl
      | cons a S => exact absurd ((h a).1 (by simp)) (by simp)))

/-- The order of names. -/
def nmB (a b : Ent) : Bool := Op.bytesLess a.name b.name
def insN (out : List Ent) (x : Ent) : List Ent := out.takeWhile (fun y => nmB y x) ++ x :: out.dropWhile (fun y => nmB y x)
def sortN (l : List Ent) : List Ent := l.foldl insN []
def SortedN (l : List Ent) : Prop := l.Pairwise fun a b => nmB b a = false
def Rising (l : List Ent) : Prop := l.Pairwise fun a b => nmB a b = true

theorem tw_parts {α : Type} (q : α → Bool) (A B : List α) (hA : ∀ a ∈ A, q a = true) (hB : ∀ b ∈ B, q b = false) : (A ++ B).takeWhile q = A ∧ (A ++ B).dropWhile q = B := by
  induction A with
  | nil =>
    cases B with
    | nil => simp
    | cons b B => have := hB b (by simp); simp [this]
  | cons a A ih =>
    have h0 := hA a (by simp)
    have := ih (fun x hx => hA x (by simp [hx]))
    simp [h0, this.1, this.2]
theorem tw_all {α : Type} {p : α → Bool} : ∀ (l : List α) (y : α), y ∈ l.takeWhile p → p y = true := by
  intro l
  induction l with
  | nil => intro y h; simp at h
  | cons a l ih =>
    intro y h
    rw [List.takeWhile_cons] at h
    split at h
    · rename_i ha
      rcases List.mem_cons.1 h with rfl | h
      · exact ha
      · exact ih y h
    · simp at h
theorem dw_head {α : Type} {p : α → Bool} : ∀ (l : List α) (y : α) (r : List α), l.dropWhile p = y :: r → p y = false := by
  intro l
  induction l with
  | nil => intro y r h; simp at h
  | cons a l ih =>
    intro y r h
    rw [List.dropWhile_cons] at h
    split at h
    · exact ih y r h
    · rename_i ha
      cases h
      simpa using ha
theorem nm_back {x y z : Ent} (h1 : nmB y x = false) (h2 : nmB z y = false) : nmB z x = false := by
  unfold nmB at *
  cases h : Op.bytesLess z.name x.name with
  | false => rfl
  | true =>
    rcases bl_total y.name z.name with h3 | h3 | h3
    · rw [bl_trans _ _ _ h3 h] at h1; cases h1
    · rw [h3, h] at h1; cases h1
    · rw [h3] at h2; cases h2
/-- A sorted list parts at a name. -/
theorem ins_parts (out : List Ent) (x : Ent) (h : SortedN out) : ∃ A B, out = A ++ B ∧ insN out x = A ++ x :: B ∧ (∀ a ∈ A, nmB a x = true) ∧ ∀ b ∈ B, nmB b x = false := by
  refine ⟨out.takeWhile (fun y => nmB y x), out.dropWhile (fun y => nmB y x), (List.takeWhile_append_dropWhile).symm, rfl, fun a ha => tw_all out a ha, fun b hb => ?_⟩
  have hs : SortedN (out.dropWhile (fun y => nmB y x)) := List.Pairwise.sublist (List.dropWhile_sublist _) h
  have hh := dw_head (p := fun y => nmB y x) out
  generalize out.dropWhile (fun y => nmB y x) = B at *
  cases B with
  | nil => simp at hb
  | cons c B =>
    have hc : nmB c x = false := hh c B rfl
    simp only [List.mem_cons] at hb
    rcases hb with rfl | hb
    · exact hc
    · exact nm_back hc (List.rel_of_pairwise_cons hs hb)
theorem ins_sorted (out : List Ent) (x : Ent) (h : SortedN out) : SortedN (insN out x) := by
  obtain ⟨A, B, rfl, h2, h3, h4⟩ := ins_parts out x h
  rw [h2]
  unfold SortedN at *
  rw [List.pairwise_append] at h ⊢
  refine ⟨h.1, List.pairwise_cons.2 ⟨fun b hb => h4 b hb, h.2.1⟩, fun a ha b hb => ?_⟩
  simp only [List.mem_cons] at hb
  rcases hb with rfl | hb
  · exact bl_asym (h3 a ha)
  · exact h.2.2 a ha b hb
theorem foldN_sorted (l : List Ent) : ∀ out, SortedN out → SortedN (l.foldl insN out) := by
  induction l with
  | nil => intro out h; exact h
  | cons x l ih => intro out h; exact ih _ (ins_sorted out x h)
theorem sortN_sorted (l : List Ent) : SortedN (sortN l) := foldN_sorted l [] List.Pairwise.nil
theorem ins_perm (out : List Ent) (x : Ent) : (insN out x).Perm (x :: out) := by
  unfold insN
  refine List.perm_middle.trans (List.Perm.cons x ?_)
  rw [List.takeWhile_append_dropWhile]
theorem foldN_perm (l : List Ent) : ∀ out, (l.foldl insN out).Perm (l ++ out) := by
  induction l with
  | nil => intro out; exact List.Perm.refl _
  | cons x l ih =>
    intro out
    refine (ih (insN out x)).trans ?_
    refine (List.Perm.append_left l (ins_perm out x)).trans ?_
    exact List.perm_middle
theorem sortN_perm (l : List Ent) : (sortN l).Perm l := by have := foldN_perm l []; rw [List.append_nil] at this; exact this
theorem sortN_mem {l : List Ent} {e : Ent} : e ∈ sortN l ↔ e ∈ l := (sortN_perm l).mem_iff
theorem sortN_len (l : List Ent) : (sortN l).length = l.length := (sortN_perm l).length_eq
theorem ins_filter (p : Ent → Bool) (out : List Ent) (x : Ent) (h : SortedN out) : (insN out x).filter p = if p x = true then insN (out.filter p) x else out.filter p := by
  obtain ⟨A, B, rfl, h2, h3, h4⟩ := ins_parts out x h
  rw [h2]
  have hA : ∀ a ∈ A.filter p, (fun y => nmB y x) a = true := fun a ha => h3 a (List.mem_filter.1 ha).1
  have hB : ∀ a ∈ B.filter p, (fun y => nmB y x) a = false := fun a ha => h4 a (List.mem_filter.1 ha).1
  have ht := tw_parts _ _ _ hA hB
  rw [List.filter_append, List.filter_append, List.filter_cons]
  split
  · unfold insN; rw [ht.1, ht.2]
  · rfl
theorem foldN_filter (p : Ent → Bool) (l : List Ent) : ∀ out, SortedN out → (l.foldl insN out).filter p = (l.filter p).foldl insN (out.filter p) := by
  induction l with
  | nil => intro out _; rfl
  | cons x l ih =>
    intro out h
    rw [List.foldl_cons, ih _ (ins_sorted out x h), ins_filter p out x h, List.filter_cons]
    split
    · rfl
    · rfl
theorem sortN_filter (p : Ent → Bool) (l : List Ent) : (sortN l).filter p = sortN (l.filter p) := foldN_filter p l [] List.Pairwise.nil
theorem ins_end (out : List Ent) (x : Ent) (h : ∀ a ∈ out, nmB a x = true) : insN out x = out ++ [x] := by
  have := tw_parts (fun y => nmB y x) out [] h (by simp)
  rw [List.append_nil] at this
  unfold insN; rw [this.1, this.2]
theorem foldN_rising (l : List Ent) : ∀ out, Rising (out ++ l) → l.foldl insN out = out ++ l := by
  induction l with
  | nil => intro out _; simp
  | cons x l ih =>
    intro out h
    have h1 := (List.pairwise_append.1 h).2.2
    rw [List.foldl_cons, ins_end out x (fun a ha => h1 a ha x (by simp)), ih]
    · simp
    · simpa using h
theorem sortN_rising (l : List Ent) (h : Rising l) : sortN l = l := by simpa [sortN] using foldN_rising l [] (by simpa using h)
/-- With names that differ, sorted is rising. -/
theorem rising_of {l : List Ent} (h : SortedN l) (hd : (l.map Ent.name).Nodup) : Rising l := by
  unfold SortedN at h; unfold Rising
  rw [List.Nodup, List.pairwise_map] at hd
  refine (h.and hd).imp ?_
  rintro a b ⟨h1, h2⟩
  unfold nmB at *
  rcases bl_total a.name b.name with h3 | h3 | h3
  · exact h3
  · exact absurd h3 h2
  · rw [h3] at h1; cases h1
theorem rising_sortN (l : List Ent) (hd : (l.map Ent.name).Nodup) : Rising (sortN l) :=
  rising_of (sortN_sorted l) (((sortN_perm l).map Ent.name).nodup_iff.2 hd)
theorem Rising.nodup {l : List Ent} (h : Rising l) : (l.map Ent.name).Nodup := by
  rw [List.Nodup, List.pairwise_map]
  exact h.imp (fun h => bl_ne h)
/-- Rising lists with the same members are one. -/
theorem rising_one {l m : List Ent} (hl : Rising l) (hm : Rising m) (h : l.Perm m) : l = m := by
  refine List.Perm.eq_of_pairwise (le := fun a b => nmB a b = true) ?_ hl hm h
  intro a b _ _ h1 h2
  have := bl_asym h1
  unfold nmB at h2
  rw [h2] at this; cases this
theorem sortN_congr {l m : List Ent} (hd : (l.map Ent.name).Nodup) (h : l.Perm m) : sortN l = sortN m :=
  rising_one (rising_sortN l hd) (rising_sortN m ((h.map Ent.name).nodup_iff.1 hd)) (((sortN_perm l).trans h).trans (sortN_perm m).symm)

end Go.Proofs.YtocbogeoffeolaaGreatDoor

namespace Go.Proofs.YtocbogeoffeolaaGreatDoor
open Go.RowKit

/-- A number as a byte. -/
def u8 (n : Int) : UInt8 := UInt8.ofNat (n % 256).toNat
def pieceL (s : Wd) : Wd := u8 s.length :: s
def threeL (n : Int) : Wd := [u8 (n.tdiv 65536), u8 ((n.tdiv 256).tmod 256), u8 (n.tmod 256)]
def entB (e : Ent) : Wd := pieceL e.name ++ (pieceL e.text ++ (threeL e.weight ++ [u8 e.tags]))
def maxW (l : List Ent) : Int := l.foldl (fun g e => if g < e.weight then e.weight else g) 0

/-- Those whose texts begin so. -/
def atP (l : List Ent) (p : Wd) : List Ent := l.filter fun e => begB (keyE e) p
def ownP (l : List Ent) (p : Wd) : List Ent := l.filter fun e => keyE e == p
/-- Is there a node? -/
def isNodeL (l : List Ent) (p : Wd) : Bool := p.isEmpty || l.any (fun e => keyE e == p) || l.any fun e => l.any fun f => begB (keyE e) p && begB (keyE f) p && (keyE e).getD p.length 0 != (keyE f).getD p.length 0
/-- The next node on the way to a text, from a length on. -/
def nextN (l : List Ent) (s : Wd) (n : Nat) : Nat := n + ((List.range (s.length - n)).takeWhile fun i => !isNodeL l (s.take (n + i))).length

def chSet (l : List Ent) (p : Wd) (ch : List Wd) (e : Ent) : List Wd :=
  if begB (keyE e) p = true ∧ keyE e ≠ p then ch.set ((keyE e).getD p.length 0).toNat ((keyE e).take (nextN l (keyE e) (p.length + 1))) else ch
def childTo (l : List Ent) (p : Wd) (k : Nat) : List Wd := (l.take k).foldl (chSet l p) (List.replicate 256 [])
def kidsL (l : List Ent) (p : Wd) : List Wd := (childTo l p l.length).filter fun q => !q.isEmpty
/-- A node and all below it; the first number: how deep at the most. -/
def nodeL : Nat → List Ent → Wd → Wd → Wd
  | 0, _, p, a => pieceL (p.drop a.length)
  | f + 1, l, p, a => pieceL (p.drop a.length) ++ (threeL (maxW (atP l p)) ++ (u8 (ownP l p).length :: ((ownP l p).flatMap entB ++ (u8 (kidsL l p).length :: (kidsL l p).flatMap fun q => nodeL f l q p))))

/-- By groups: those that go on with a byte. -/
def grp (G : List Ent) (p : Wd) (c : UInt8) : List Ent := G.filter fun e => begB (keyE e) (p ++ [c])
def bytes256 : List UInt8 := (List.range 256).map UInt8.ofNat
def heads (G : List Ent) (p : Wd) : List UInt8 := bytes256.filter fun c => !(grp G p c).isEmpty
def stem (H : List Ent) : Wd := lcpL (H.map keyE)
def bodyC : Nat → Wd → List Ent → Wd
  | 0, _, _ => []
  | f + 1, p, G => threeL (maxW G) ++ (u8 (ownP G p).length :: ((ownP G p).flatMap entB ++ (u8 (heads G p).length :: (heads G p).flatMap fun c => pieceL ((stem (grp G p c)).drop p.length) ++ bodyC f (stem (grp G p c)) (grp G p c))))

theorem snoc_pre (p s : Wd) (c : UInt8) : p ++ [c] <+: s ↔ p <+: s ∧ p.length < s.length ∧ s.getD p.length 0 = c := by
  constructor
  · rintro ⟨t, rfl⟩
    refine ⟨⟨c :: t, by simp⟩, by simp, ?_⟩
    simp [List.getD_eq_getElem?_getD]
  · rintro ⟨⟨t, rfl⟩, h2, h3⟩
    cases t with
    | nil => simp at h2
    | cons d t =>
      simp [List.getD_eq_getElem?_getD] at h3
      subst h3
      exact ⟨t, by simp⟩
theorem pre_lt {p s : Wd} (h : p <+: s) (hn : s ≠ p) : p.length < s.length := by
  rcases Nat.lt_or_ge p.length s.length with h1 | h1
  · exact h1
  · exact absurd (h.eq_of_length (Nat.le_antisymm h.length_le h1)).symm hn
theorem pre_take {p s : Wd} (h : p <+: s) : s.take p.length = p := (List.prefix_iff_eq_take.1 h).symm
theorem pre_getD {p s : Wd} (h : p <+: s) (i : Nat) (hi : i < p.length) : s.getD i 0 = p.getD i 0 := by
  obtain ⟨t, rfl⟩ := h
  rw [List.getD_eq_getElem?_getD, List.getD_eq_getElem?_getD, List.getElem?_append_left hi]
theorem atP_mem {l : List Ent} {p : Wd} {e : Ent} : e ∈ atP l p ↔ e ∈ l ∧ p <+: keyE e := by simp [atP, begB_iff]
theorem atP_atP {l : List Ent} {p q : Wd} (h : p <+: q) : atP (atP l p) q = atP l q := by
  unfold atP
  rw [List.filter_filter]
  refine List.filter_congr fun e _ => ?_
  rw [Bool.eq_iff_iff, Bool.and_eq_true, begB_iff, begB_iff]
  exact ⟨fun h => h.1, fun h2 => ⟨h2, h.trans h2⟩⟩
theorem grp_eq (l : List Ent) (p : Wd) (c : UInt8) : grp l p c = atP l (p ++ [c]) := rfl
theorem stem_is {H : List Ent} (h : H ≠ []) : IsLcp (stem H) (H.map keyE) := lcpL_is (by simpa using h)
/-- The stem of a group is at least a byte longer. -/
theorem stem_pre {l : List Ent} {p : Wd} (h : atP l p ≠ []) : p <+: stem (atP l p) :=
  (stem_is h).2 p (fun s hs => by
    obtain ⟨e, he, rfl⟩ := List.mem_map.1 hs
    exact (atP_mem.1 he).2)
theorem atP_stem {l : List Ent} {p : Wd} (h : atP l p ≠ []) : atP l (stem (atP l p)) = atP l p := by
  unfold atP
  refine List.filter_congr fun e he => ?_
  rw [Bool.eq_iff_iff, begB_iff, begB_iff]
  refine ⟨fun h2 => (stem_pre h).trans h2, fun h2 => ?_⟩
  exact (stem_is h).1 _ (List.mem_map.2 ⟨e, atP_mem.2 ⟨he, h2⟩, rfl⟩)

theorem next_eq {l : List Ent} {e : Ent} {p : Wd} (he : e ∈ l) (hp : p <+: keyE e) (hn : keyE e ≠ p) :
    (keyE e).take (nextN l (keyE e) (p.length + 1)) = stem (atP l (p ++ [(keyE e).getD p.length 0])) := by
  have hlt := pre_lt hp hn
  have hpc : p ++ [(keyE e).getD p.length 0] <+: keyE e := (snoc_pre _ _ _).2 ⟨hp, hlt, rfl⟩
  generalize hc : (keyE e).getD p.length 0 = c at *
  have hH : atP l (p ++ [c]) ≠ [] := List.ne_nil_of_mem (atP_mem.2 ⟨he, hpc⟩)
  have hq := stem_is hH
  have hpq := stem_pre hH
  generalize hS : stem (atP l (p ++ [c])) = q at *
  have hqs : q <+: keyE e := hq.1 _ (List.mem_map.2 ⟨e, atP_mem.2 ⟨he, hpc⟩, rfl⟩)
  have hl1 := hpq.length_le
  have hl2 := hqs.length_le
  simp only [List.length_append, List.length_singleton] at hl1
  have hyes : isNodeL l q = true := by
    unfold isNodeL
    simp only [Bool.or_eq_true, List.any_eq_true, beq_iff_eq, Bool.and_eq_true, bne_iff_ne, begB_iff]
    by_cases hk : ∃ x ∈ l, keyE x = q
    · exact Or.inl (Or.inr hk)
    · refine Or.inr ⟨e, he, ?_⟩
      have hne : keyE e ≠ q := fun h => hk ⟨e, he, h⟩
      have hel := pre_lt hqs hne
      refine Classical.byContradiction fun hno => ?_
      have hall : ∀ f ∈ l, q <+: keyE f → (keyE f).getD q.length 0 = (keyE e).getD q.length 0 := by
        intro f hf hqf
        refine Classical.byContradiction fun hd => hno ⟨f, hf, ⟨hqs, hqf⟩, fun h => hd h.symm⟩
      have := hq.2 (q ++ [(keyE e).getD q.length 0]) (fun s hs => by
        obtain ⟨f, hf, rfl⟩ := List.mem_map.1 hs
        have hqf := hq.1 _ hs
        have hfl := (atP_mem.1 hf).1
        exact (snoc_pre _ _ _).2 ⟨hqf, pre_lt hqf (fun h => hk ⟨f, hfl, h⟩), hall f hfl hqf⟩)
      have := this.length_le
      simp at this
      omega
  have hno : ∀ n, p.length + 1 ≤ n → n < q.length → isNodeL l ((keyE e).take n) = false := by
    intro n h1 h2
    have hr : (keyE e).take n <+: q := by
      have : (keyE e).take n <+: keyE e := List.take_prefix _ _
      exact List.prefix_of_prefix_length_le this hqs (by simp; omega)
    have hrl : ((keyE e).take n).length = n := by simp; omega
    have hpr : p ++ [c] <+: (keyE e).take n := List.prefix_of_prefix_length_le hpc (List.take_prefix _ _) (by simp; omega)
    generalize (keyE e).take n = r at *
    have hin : ∀ f ∈ l, r <+: keyE f → q <+: keyE f := fun f hf h => hq.1 _ (List.mem_map.2 ⟨f, atP_mem.2 ⟨hf, hpr.trans h⟩, rfl⟩)
    rw [Bool.eq_false_iff]
    intro hy
    unfold isNodeL at hy
    simp only [Bool.or_eq_true, List.any_eq_true, beq_iff_eq, Bool.and_eq_true, bne_iff_ne, begB_iff] at hy
    rcases hy with (h | ⟨f, hf, h⟩) | ⟨f, hf, g, hg, ⟨hf1, hg1⟩, hd⟩
    · simp at h; subst h; simp at hrl; omega
    · have := (hin f hf (by rw [h]; exact List.prefix_refl _)).length_le
      rw [h] at this; omega
    · have e1 := pre_getD (hin f hf hf1) r.length (by omega)
      have e2 := pre_getD (hin g hg hg1) r.length (by omega)
      exact hd (by rw [e1, e2])
  have hN : nextN l (keyE e) (p.length + 1) = q.length := by
    unfold nextN
    rw [takeWhile_len _ _ (q.length - (p.length + 1)) (by simp; omega) (fun j hj => ?_) (fun hj => ?_)]
    · omega
    · simp only [List.getElem_range, Bool.not_eq_true']
      exact hno _ (by omega) (by omega)
    · simp only [List.getElem_range, Bool.not_eq_false']
      rw [show p.length + 1 + (q.length - (p.length + 1)) = q.length by omega, pre_take hqs]
      exact hyes
  rw [hN, pre_take hqs]

theorem bytes256_get (i : Nat) (h : i < bytes256.length) : bytes256[i] = UInt8.ofNat i := by simp [bytes256]
theorem bytes256_len : bytes256.length = 256 := by simp [bytes256]
theorem byte_ofNat (c : UInt8) : UInt8.ofNat c.toNat = c := by simp
theorem byte_ne {c : UInt8} {i : Nat} (hi : i < 256) (h : i ≠ c.toNat) : UInt8.ofNat i ≠ c := by
  intro e
  have := congrArg UInt8.toNat e
  simp at this
  omega
def kidV (l pre : List Ent) (p : Wd) (c : UInt8) : Wd := if (pre.any fun e => begB (keyE e) (p ++ [c])) = true then stem (atP l (p ++ [c])) else []
theorem chSet_step (l pre : List Ent) (p : Wd) (e : Ent) (he : e ∈ l) : chSet l p (bytes256.map (kidV l pre p)) e = bytes256.map (kidV l (pre ++ [e]) p) := by
  unfold chSet
  by_cases h : begB (keyE e) p = true ∧ keyE e ≠ p
  · rw [if_pos h]
    have hp := (begB_iff _ _).1 h.1
    rw [next_eq he hp h.2]
    have hc : p ++ [(keyE e).getD p.length 0] <+: keyE e := (snoc_pre _ _ _).2 ⟨hp, pre_lt hp h.2, rfl⟩
    generalize hcc : (keyE e).getD p.length 0 = c at *
    apply List.ext_getElem
    · simp
    · intro i h1 h2
      simp only [List.length_set, List.length_map, bytes256_len] at h1
      rw [List.getElem_set, List.getElem_map, List.getElem_map, bytes256_get]
      split
      · rename_i hi
        subst hi
        unfold kidV
        rw [byte_ofNat, if_pos]
        simp [begB_iff, hc]
      · rename_i hi
        unfold kidV
        rw [List.any_append]
        have : begB (keyE e) (p ++ [UInt8.ofNat i]) = false := by
          rw [Bool.eq_false_iff]
          intro hb
          have := ((snoc_pre _ _ _).1 ((begB_iff _ _).1 hb)).2.2
          rw [hcc] at this
          exact byte_ne h1 (fun h => hi h.symm) this.symm
        simp [this]
  · rw [if_neg h]
    refine List.map_congr_left fun c _ => ?_
    unfold kidV
    rw [List.any_append]
    have : begB (keyE e) (p ++ [c]) = false := by
      rw [Bool.eq_false_iff]
      intro hb
      have := (snoc_pre _ _ _).1 ((begB_iff _ _).1 hb)
      exact h ⟨(begB_iff _ _).2 this.1, fun e => by rw [e] at this; omega⟩
    simp [this]
theorem child_fold (l : List Ent) (p : Wd) : ∀ (m pre : List Ent), (∀ e ∈ m, e ∈ l) → m.foldl (chSet l p) (bytes256.map (kidV l pre p)) = bytes256.map (kidV l (pre ++ m) p) := by
  intro m
  induction m with
  | nil => intro pre _; simp
  | cons e m ih =>
    intro pre h
    rw [List.foldl_cons, chSet_step l pre p e (h e (by simp)), ih _ (fun x hx => h x (by simp [hx]))]
    simp
theorem child_eq (l : List Ent) (p : Wd) : childTo l p l.length = bytes256.map (kidV l l p) := by
  have h0 : List.replicate 256 ([] : Wd) = bytes256.map (kidV l [] p) := by
    apply List.ext_getElem
    · rw [List.length_replicate, List.length_map, bytes256_len]
    · intro i h1 h2; rw [List.getElem_replicate, List.getElem_map]; rfl
  unfold childTo
  rw [List.take_length, h0, child_fold l p l [] (fun _ h => h)]
  simp
theorem any_atP (l : List Ent) (p : Wd) : (l.any fun e => begB (keyE e) p) = !(atP l p).isEmpty := by
  unfold atP
  induction l with
  | nil => rfl
  | cons e l ih =>
    rw [List.any_cons, List.filter_cons, ih]
    cases begB (keyE e) p <;> simp
theorem stem_ne {l : List Ent} {p : Wd} {c : UInt8} (h : atP l (p ++ [c]) ≠ []) : stem (atP l (p ++ [c])) ≠ [] := by
  intro e
  have := (stem_pre h).length_le
  rw [e] at this
  simp at this
theorem kidV_eq (l : List Ent) (p : Wd) (c : UInt8) : kidV l l p c = if (grp l p c).isEmpty = true then [] else stem (grp l p c) := by
  unfold kidV
  rw [any_atP, grp_eq]
  cases (atP l (p ++ [c])).isEmpty <;> simp
theorem kids_eq (l : List Ent) (p : Wd) : kidsL l p = (heads l p).map fun c => stem (grp l p c) := by
  unfold kidsL heads
  rw [child_eq, List.filter_map]
  have hf : ∀ c ∈ bytes256, ((fun q : Wd => !q.isEmpty) ∘ kidV l l p) c = !(grp l p c).isEmpty := by
    intro c _
    show (!(kidV l l p c).isEmpty) = _
    rw [kidV_eq]
    cases h : (grp l p c).isEmpty with
    | true => simp
    | false =>
      have := stem_ne (l := l) (p := p) (c := c) (by rw [← grp_eq]; intro e; rw [e] at h; simp at h)
      rw [← grp_eq] at this
      simp [this]
  rw [List.filter_congr hf]
  refine List.map_congr_left fun c hc => ?_
  have := (List.mem_filter.1 hc).2
  rw [kidV_eq, if_neg]
  simpa using this

theorem own_at (l : List Ent) (p : Wd) : ownP (atP l p) p = ownP l p := by
  unfold ownP atP
  rw [List.filter_filter]
  refine List.filter_congr fun e _ => ?_
  rw [Bool.eq_iff_iff, Bool.and_eq_true, begB_iff, beq_iff_eq]
  exact ⟨fun h => h.1, fun h => ⟨h, by rw [h]; exact List.prefix_refl _⟩⟩
theorem grp_at (l : List Ent) (p : Wd) (c : UInt8) : grp (atP l p) p c = atP l (p ++ [c]) := by
  rw [grp_eq, atP_atP (List.prefix_append _ _)]
theorem heads_at (l : List Ent) (p : Wd) : heads (atP l p) p = heads l p := by
  unfold heads
  refine List.filter_congr fun c _ => ?_
  rw [grp_at, grp_eq]
theorem heads_mem {l : List Ent} {p : Wd} {c : UInt8} (h : c ∈ heads l p) : atP l (p ++ [c]) ≠ [] := by
  have := (List.mem_filter.1 h).2
  rw [grp_eq] at this
  intro e; rw [e] at this; simp at this
theorem flatMap_same {α β : Type} {f g : α → List β} : ∀ {l : List α}, (∀ a ∈ l, f a = g a) → l.flatMap f = l.flatMap g
  | [], _ => rfl
  | a :: l, h => by rw [List.flatMap_cons, List.flatMap_cons, h a (by simp), flatMap_same (fun x hx => h x (by simp [hx]))]
/-- The two ways of saying a node are one. -/
theorem node_body (l : List Ent) : ∀ (f : Nat) (p a : Wd), nodeL f l p a = pieceL (p.drop a.length) ++ bodyC f p (atP l p) := by
  intro f
  induction f with
  | zero => intro p a; simp [nodeL, bodyC]
  | succ f ih =>
    intro p a
    have hk : ((heads l p).map fun c => stem (grp l p c)).flatMap (fun q => nodeL f l q p) = (heads l p).flatMap fun c => pieceL ((stem (grp (atP l p) p c)).drop p.length) ++ bodyC f (stem (grp (atP l p) p c)) (grp (atP l p) p c) := by
      rw [List.flatMap_map]
      refine flatMap_same fun c hc => ?_
      have hne := heads_mem hc
      rw [ih, grp_at, grp_eq, atP_stem hne]
    rw [nodeL, bodyC, own_at, heads_at, kids_eq, List.length_map, hk]

end Go.Proofs.YtocbogeoffeolaaGreatDoor

namespace Go.Proofs.YtocbogeoffeolaaGreatDoor
open Go.RowKit

def rdTake (n : Nat) (bs : Wd) : Option (Wd × Wd) := if n ≤ bs.length then some (bs.take n, bs.drop n) else none
def rdNum : Wd → Option (Nat × Wd)
  | [] => none
  | b :: r => some (b.toNat, r)
def rdText (bs : Wd) : Option (Wd × Wd) := (rdNum bs).bind fun x => rdTake x.1 x.2
def rdWeight : Wd → Option (Nat × Wd)
  | a :: b :: c :: r => some (a.toNat * 65536 + b.toNat * 256 + c.toNat, r)
  | _ => none
def rdName (ks : List Wd) (last bs : Wd) : Option (Wd × Wd) :=
  (rdText bs).bind fun x => if nameB x.1 = true ∧ Op.bytesLess last x.1 = true ∧ x.1 ∉ ks then some x else none
def rdEntry (nm bs : Wd) : Option (Ent × Wd) :=
  (rdText bs).bind fun x => if queryB x.1 = true ∧ x.1 ≠ [] then (rdWeight x.2).bind fun y => if y.1 ≤ 1000000 then (rdNum y.2).bind fun z => some (⟨nm, false, x.1, y.1, z.1⟩, z.2) else none else none
def rdEnts : Nat → Wd → List Wd → Wd → Wd → Option (List Ent × Wd)
  | 0, _, _, _, bs => some ([], bs)
  | n + 1, path, ks, last, bs => (rdName ks last bs).bind fun x => (rdEntry x.1 x.2).bind fun y => if keyE y.1 = path then (rdEnts n path (ks ++ [x.1]) x.1 y.2).bind fun z => some (y.1 :: z.1, z.2) else none
def rdKids (node : Wd → List Wd → Wd → Option (Nat × List Ent × Wd)) : Nat → Wd → List Wd → Int → Wd → Option (Nat × List Ent × Wd)
  | 0, _, _, _, bs => some (0, [], bs)
  | n + 1, path, ks, last, bs => (rdText bs).bind fun x => if x.1 ≠ [] ∧ last < ((x.1.getD 0 0).toNat : Int) then
      (node (path ++ x.1) ks x.2).bind fun y => (rdKids node n path (ks ++ y.2.1.map Ent.name) ((x.1.getD 0 0).toNat : Int) y.2.2).bind fun z => some (max y.1 z.1, y.2.1 ++ z.2.1, z.2.2) else none
def rdNode : Nat → Wd → List Wd → Wd → Option (Nat × List Ent × Wd)
  | 0, _, _, _ => none
  | f + 1, path, ks, bs => if path.length ≤ 24 then
      (rdWeight bs).bind fun a => (rdNum a.2).bind fun b => (rdEnts b.1 path ks [] b.2).bind fun c => (rdNum c.2).bind fun d => (rdKids (rdNode f) d.1 path (ks ++ c.1.map Ent.name) (-1) d.2).bind fun e =>
        if (a.1 : Int) = max (maxW c.1) e.1 ∧ (path = [] ∨ 0 < b.1 ∨ 1 < d.1) then some (a.1, c.1 ++ e.2.1, e.2.2) else none
    else none
def rdGone : Nat → List Wd → Wd → Wd → Option (List Ent × Wd)
  | 0, _, _, bs => some ([], bs)
  | n + 1, ks, last, bs => (rdName ks last bs).bind fun x => (rdGone n (ks ++ [x.1]) x.1 x.2).bind fun z => some (⟨x.1, true, [], 0, 0⟩ :: z.1, z.2)
/-- A whole segment: the gone names, then the entries. -/
def rdSeg (bs : Wd) : Option (List Ent × List Ent) :=
  (rdNum bs).bind fun a => (rdGone a.1 [] [] a.2).bind fun b => (rdText b.2).bind fun c => if c.1 = [] then (rdNode 26 [] (b.1.map Ent.name) c.2).bind fun d =>
    if d.2.2 = [] ∧ 0 < b.1.length + d.2.1.length ∧ a.1 ≤ 100 ∧ d.2.1.length ≤ 30 then some (b.1, d.2.1) else none else none

theorem u8_of (b : UInt8) : u8 (b.toNat : Int) = b := by
  have h := b.toNat_lt
  unfold u8
  rw [show ((b.toNat : Int) % 256).toNat = b.toNat by omega]
  simp
theorem u8_nat (n : Nat) (h : n < 256) : (u8 (n : Int)).toNat = n := by
  unfold u8
  rw [show ((n : Int) % 256).toNat = n by omega]
  simp; omega
theorem rdNum_some {bs r : Wd} {n : Nat} (h : rdNum bs = some (n, r)) : bs = u8 n :: r ∧ n < 256 := by
  cases bs with
  | nil => simp [rdNum] at h
  | cons b t =>
    simp only [rdNum, Option.some.injEq, Prod.mk.injEq] at h
    obtain ⟨rfl, rfl⟩ := h
    exact ⟨by rw [u8_of], b.toNat_lt⟩
theorem rdNum_u8 (n : Nat) (h : n < 256) (r : Wd) : rdNum (u8 n :: r) = some (n, r) := by simp [rdNum, u8_nat n h]
theorem rdText_some {bs r t : Wd} (h : rdText bs = some (t, r)) : bs = pieceL t ++ r ∧ t.length < 256 := by
  unfold rdText at h
  cases hn : rdNum bs with
  | none => rw [hn] at h; simp at h
  | some x =>
    obtain ⟨n, b⟩ := x
    obtain ⟨rfl, hn2⟩ := rdNum_some hn
    rw [hn] at h
    simp only [Option.bind_some, rdTake] at h
    split at h
    · rename_i hle
      simp only [Option.some.injEq, Prod.mk.injEq] at h
      obtain ⟨rfl, rfl⟩ := h
      have hl : (b.take n).length = n := by simp; omega
      refine ⟨?_, by omega⟩
      unfold pieceL
      rw [hl, List.cons_append, List.take_append_drop]
    · simp at h
theorem rdText_piece (t r : Wd) (h : t.length < 256) : rdText (pieceL t ++ r) = some (t, r) := by
  unfold rdText pieceL
  rw [List.cons_append, rdNum_u8 _ h]
  simp [rdTake]
theorem three_nat (n : Nat) (h : n < 16777216) : threeL (n : Int) = [u8 ((n / 65536 : Nat) : Int), u8 ((n / 256 % 256 : Nat) : Int), u8 ((n % 256 : Nat) : Int)] := by
  unfold threeL
  rw [Int.tdiv_eq_ediv_of_nonneg (by omega), Int.tdiv_eq_ediv_of_nonneg (by omega), Int.tmod_eq_emod_of_nonneg (by omega), Int.tmod_eq_emod_of_nonneg (by omega)]
  rfl
theorem rdWeight_some {bs r : Wd} {n : Nat} (h : rdWeight bs = some (n, r)) : bs = threeL n ++ r ∧ n < 16777216 := by
  match bs, h with
  | a :: b :: c :: t, h =>
    simp only [rdWeight, Option.some.injEq, Prod.mk.injEq] at h
    obtain ⟨rfl, rfl⟩ := h
    have ha := a.toNat_lt
    have hb := b.toNat_lt
    have hc := c.toNat_lt
    refine ⟨?_, by omega⟩
    rw [three_nat _ (by omega)]
    rw [show (a.toNat * 65536 + b.toNat * 256 + c.toNat) / 65536 = a.toNat by omega, show (a.toNat * 65536 + b.toNat * 256 + c.toNat) / 256 % 256 = b.toNat by omega, show (a.toNat * 65536 + b.toNat * 256 + c.toNat) % 256 = c.toNat by omega, u8_of, u8_of, u8_of]
    rfl
  | [], h => simp [rdWeight] at h
  | [_], h => simp [rdWeight] at h
  | [_, _], h => simp [rdWeight] at h
theorem rdWeight_three (n : Nat) (h : n < 16777216) (r : Wd) : rdWeight (threeL n ++ r) = some (n, r) := by
  rw [three_nat n h]
  simp only [List.cons_append, List.nil_append, rdWeight]
  rw [u8_nat _ (by omega), u8_nat _ (by omega), u8_nat _ (by omega)]
  congr 2
  omega

theorem maxW_nonneg (l : List Ent) : ∀ g : Int, 0 ≤ g → l.foldl (fun g e => if g < e.weight then e.weight else g) g = max g (maxW l) ∧ 0 ≤ maxW l := by
  induction l with
  | nil => intro g hg; simp [maxW]; omega
  | cons e l ih =>
    intro g hg
    have h1 := ih (if g < e.weight then e.weight else g) (by split <;> omega)
    have h2 := ih (if 0 < e.weight then e.weight else 0) (by split <;> omega)
    have e1 : maxW (e :: l) = l.foldl (fun g e => if g < e.weight then e.weight else g) (if 0 < e.weight then e.weight else 0) := rfl
    rw [e1, List.foldl_cons, h1.1, h2.1]
    constructor
    · split <;> split <;> omega
    · split <;> omega
theorem maxW_pos (l : List Ent) : 0 ≤ maxW l := (maxW_nonneg l 0 (by omega)).2
theorem maxW_cons (e : Ent) (l : List Ent) : maxW (e :: l) = max (max 0 e.weight) (maxW l) := by
  have := (maxW_nonneg l (if 0 < e.weight then e.weight else 0) (by split <;> omega)).1
  rw [show maxW (e :: l) = l.foldl (fun g e => if g < e.weight then e.weight else g) (if 0 < e.weight then e.weight else 0) from rfl, this]
  split <;> omega
theorem maxW_append (l m : List Ent) : maxW (l ++ m) = max (maxW l) (maxW m) := by
  induction l with
  | nil => have := maxW_pos m; simp only [List.nil_append]; rw [show maxW [] = 0 from rfl]; omega
  | cons e l ih => rw [List.cons_append, maxW_cons, maxW_cons, ih]; omega
theorem maxW_perm {l m : List Ent} (h : l.Perm m) : maxW l = maxW m := by
  induction h with
  | nil => rfl
  | cons e _ ih => rw [maxW_cons, maxW_cons, ih]
  | swap a b l => simp only [maxW_cons]; omega
  | trans _ _ h1 h2 => rw [h1, h2]

/-- What may be there. -/
def okE (e : Ent) : Prop := e.gone = false ∧ nameB e.name = true ∧ queryB e.text = true ∧ e.text ≠ [] ∧ 0 ≤ e.weight ∧ e.weight ≤ 1000000 ∧ 0 ≤ e.tags ∧ e.tags ≤ 255

theorem rdName_some {ks : List Wd} {last bs nm r : Wd} (h : rdName ks last bs = some (nm, r)) : bs = pieceL nm ++ r ∧ nameB nm = true ∧ Op.bytesLess last nm = true ∧ nm ∉ ks := by
  unfold rdName at h
  obtain ⟨x, hx, h⟩ := Option.bind_eq_some_iff.1 h
  split at h
  · rename_i hc
    simp only [Option.some.injEq] at h
    subst h
    exact ⟨(rdText_some hx).1, hc⟩
  · simp at h
theorem rdEntry_some {nm bs r : Wd} {e : Ent} (h : rdEntry nm bs = some (e, r)) : e.name = nm ∧ bs = pieceL e.text ++ (threeL e.weight ++ (u8 e.tags :: r)) ∧ (nameB nm = true → okE e) := by
  unfold rdEntry at h
  obtain ⟨x, hx, h⟩ := Option.bind_eq_some_iff.1 h
  split at h
  · rename_i hc
    obtain ⟨y, hy, h⟩ := Option.bind_eq_some_iff.1 h
    split at h
    · rename_i hw
      obtain ⟨z, hz, h⟩ := Option.bind_eq_some_iff.1 h
      simp only [Option.some.injEq, Prod.mk.injEq] at h
      obtain ⟨rfl, rfl⟩ := h
      have h1 := rdText_some hx
      have h2 := rdWeight_some hy
      have h3 := rdNum_some hz
      refine ⟨rfl, ?_, fun hn => ⟨rfl, hn, hc.1, hc.2, by simp, by simp; omega, by simp, by simp; omega⟩⟩
      rw [h1.1, h2.1, h3.1]
    · simp at h
  · simp at h
theorem rdEnts_some : ∀ (n : Nat) (path : Wd) (ks : List Wd) (last bs : Wd) (es : List Ent) (rest : Wd), rdEnts n path ks last bs = some (es, rest) →
    es.length = n ∧ bs = es.flatMap entB ++ rest ∧ (∀ e ∈ es, okE e ∧ keyE e = path ∧ e.name ∉ ks ∧ Op.bytesLess last e.name = true) ∧ Rising es := by
  intro n
  induction n with
  | zero =>
    intro path ks last bs es rest h
    simp only [rdEnts, Option.some.injEq, Prod.mk.injEq] at h
    obtain ⟨rfl, rfl⟩ := h
    exact ⟨rfl, rfl, fun _ h => by simp at h, List.Pairwise.nil⟩
  | succ n ih =>
    intro path ks last bs es rest h
    unfold rdEnts at h
    obtain ⟨x, hx, h⟩ := Option.bind_eq_some_iff.1 h
    obtain ⟨y, hy, h⟩ := Option.bind_eq_some_iff.1 h
    split at h
    · rename_i hk
      obtain ⟨z, hz, h⟩ := Option.bind_eq_some_iff.1 h
      simp only [Option.some.injEq, Prod.mk.injEq] at h
      obtain ⟨rfl, rfl⟩ := h
      obtain ⟨h1, h2, h3, h4⟩ := ih _ _ _ _ _ _ hz
      have hn := rdName_some hx
      have he := rdEntry_some hy
      refine ⟨by simp [h1], ?_, ?_, ?_⟩
      · rw [hn.1, he.2.1, h2, ← he.1, List.flatMap_cons]
        simp [entB]
      · intro e hm
        simp only [List.mem_cons] at hm
        rcases hm with rfl | hm
        · rw [he.1]
          exact ⟨he.2.2 hn.2.1, hk, hn.2.2.2, hn.2.2.1⟩
        · obtain ⟨g1, g2, g3, g4⟩ := h3 e hm
          exact ⟨g1, g2, fun hc => g3 (by simp [hc]), bl_trans _ _ _ hn.2.2.1 g4⟩
      · refine List.pairwise_cons.2 ⟨fun e hm => ?_, h4⟩
        unfold nmB
        rw [he.1]
        exact (h3 e hm).2.2.2
    · simp at h

end Go.Proofs.YtocbogeoffeolaaGreatDoor

namespace Go.Proofs.YtocbogeoffeolaaGreatDoor
open Go.RowKit

/-- What a reader panics with. -/
def dmgE : PanicEntry := { v := .iface 264 (.agg #[]), recovered := false }

set_option maxHeartbeats 400000 in
theorem must_yes (w : World) : Calls Tryz.prog 212 #[.bool true] w fun e w' => e = .returned (.tuple #[]) ∧ w = w' := by
  go_enter Tryz.func212, Tryz.ntmps212
  go_wp2
  go_end0
  exact ⟨rfl, rfl⟩
set_option maxHeartbeats 400000 in
theorem must_no (w : World) : Calls Tryz.prog 212 #[.bool false] w fun e w' => e = .panicked [dmgE] ∧ w = w' := by
  go_enter Tryz.func212, Tryz.ntmps212
  go_wp2
  exact ⟨rfl, rfl, rfl⟩

/-- The reader, in memory. -/
def RdAt (w : World) (Rb : Nat) (S : ByteArray) (p : Nat) (Mk : Nat) (vt : Value) : Prop := w.heap[Rb]? = some (.cells #[.string S, .int .i64 p, .map (some Mk), vt] 216 (0, 0))

theorem ext_mid (s : ByteArray) (p n : Nat) : s.extract p (p + n) = ⟨((s.data.toList.drop p).take n).toArray⟩ := by
  apply ByteArray.ext
  rw [ByteArray.data_extract]
  apply Array.ext'
  simp [List.take_drop]
theorem frame_set {w : World} {b o : Nat} {v : Value} {F : Nat → Prop} (hF : F b) : FrameF F w (w.setCell ⟨b, o, none⟩ v) :=
  ⟨rfl, rfl, rfl, by simp [World.setCell], fun k hk hn => Below.heap_setCell _ _ _ _ (by intro e; subst e; exact hn hF)⟩

set_option maxHeartbeats 1000000 in
set_option maxRecDepth 100000 in
theorem take_yes (Rb : Nat) (S : ByteArray) (p Mk : Nat) (vt : Value) (n : Nat) (w : World) (h : RdAt w Rb S p Mk vt) (hp : p + n ≤ S.size) (hS : S.size ≤ 1099511627776) :
    Calls Tryz.prog 236 #[.pointer (some ⟨Rb, 0, none⟩), .int .i64 n] w fun e w' => e = .returned (.string (S.extract p (p + n))) ∧ RdAt w' Rb S (p + n) Mk vt ∧ FrameF (· = Rb) w w' ∧ w'.heap.size = w.heap.size := by
  unfold RdAt at h
  have c0 : w.cell? ⟨Rb, 0, none⟩ = some (.string S) := by rw [cell_of_heap h]; rfl
  have c1 : w.cell? ⟨Rb, 1, none⟩ = some (.int .i64 p) := by rw [cell_of_heap h]; rfl
  have f1 : w.frozen? ⟨Rb, 1, none⟩ = false := frozen_of_heap h 1
  have HH : Hid (w.heap[Rb]? = some (.cells #[.string S, .int .i64 p, .map (some Mk), vt] 216 (0, 0))) := h
  have hwr : IntKind.i64.wrap ((S.size : Int) - (p : Int)) = (S.size : Int) - (p : Int) := by simp only [IntKind.wrap_i64]; omega
  have hle : (n : Int) ≤ (S.size : Int) - (p : Int) := by omega
  have hwr2 : IntKind.i64.wrap ((p : Int) + (n : Int)) = ((p + n : Nat) : Int) := by simp only [IntKind.wrap_i64]; omega
  have hle2 : (p : Int) ≤ ((p + n : Nat) : Int) := by omega
  have hle3 : ((p + n : Nat) : Int) ≤ (S.size : Int) := by omega
  clear h
  go_enter Tryz.func236, Tryz.ntmps236
  go_wp2_with fail
  go_region_held3 (fun w' => w'.cell? ⟨Rb, 0, none⟩ = some (.string S) ∧ w'.cell? ⟨Rb, 1, none⟩ = some (.int .i64 p)) (go_keep) (first | (go_at_call 212; refine (must_yes _).mono ?_; rintro e w' ⟨rfl, rfl⟩))
  go_wp2_with fail
  go_quiet (fail)
  go_wp2
  go_ret
  have h1 : ((w.drewN (1 + nq)).setCell ⟨Rb, 1, none⟩ (.int .i64 ((p : Int) + (n : Int)))).heap[Rb]? = some (.cells #[.string S, .int .i64 ((p + n : Nat) : Int), .map (some Mk), vt] 216 (0, 0)) := by
    rw [heap_set (w := w.drewN (1 + nq)) HH.out]
    simp
  refine ⟨rfl, h1, ?_, by simp [World.setCell, World.drewN]⟩
  have hf := frame_set (w := w.drewN (1 + nq)) (b := Rb) (o := 1) (v := .int .i64 ((p : Int) + (n : Int))) (F := (· = Rb)) rfl
  exact ⟨hf.os, hf.tape, hf.output, hf.size, hf.block⟩

set_option maxHeartbeats 1000000 in
set_option maxRecDepth 100000 in
theorem take_out (R : Ending → World → Prop) (Rb : Nat) (S : ByteArray) (p Mk : Nat) (vt : Value) (n : Nat) (w : World) (h : RdAt w Rb S p Mk vt) (hp : S.size < p + n) (hpS : p ≤ S.size) (hS : S.size ≤ 1099511627776) (hR : R (.panicked [dmgE]) w.drew) :
    Calls Tryz.prog 236 #[.pointer (some ⟨Rb, 0, none⟩), .int .i64 n] w R := by
  unfold RdAt at h
  have c0 : w.cell? ⟨Rb, 0, none⟩ = some (.string S) := by rw [cell_of_heap h]; rfl
  have c1 : w.cell? ⟨Rb, 1, none⟩ = some (.int .i64 p) := by rw [cell_of_heap h]; rfl
  have hwr : IntKind.i64.wrap ((S.size : Int) - (p : Int)) = (S.size : Int) - (p : Int) := by simp only [IntKind.wrap_i64]; omega
  have hle : decide ((n : Int) ≤ (S.size : Int) - (p : Int)) = false := decide_eq_false (by omega)
  have hpan : ∀ tm : Array Value, bodyPost Tryz.prog Tryz.f236 R (.panic [dmgE]) { tmps := tm, defers := [] } w.drew := fun _ => ⟨rfl, hR⟩
  clear h
  go_enter Tryz.func236, Tryz.ntmps236
  go_wp2_with fail
  refine wp_region_held (S := fun w' => w' = w.drew) (by kernel_rfl) ?_
  refine wpAnyH_take (i := 0) (v := ?_) rfl (by kernel_rfl) (by kernel_rfl) (by kernel_rfl) (fun _ _ _ h => h) (Or.inl ⟨by rfl, ?_⟩) rfl ?_
  rotate_left
  · rintro _ rfl; go_simp; first | done | with_reducible rfl
  refine wpAnyH_take (i := 1) (v := ?_) rfl (by kernel_rfl) (by kernel_rfl) (by kernel_rfl) (fun _ _ _ h => h) (Or.inl ⟨by rfl, ?_⟩) rfl ?_
  rotate_left
  · rintro _ rfl; go_simp; first | done | with_reducible rfl
  refine wpAnyH_take (i := 2) (v := ?_) rfl (by kernel_rfl) (by kernel_rfl) (by kernel_rfl) (fun _ _ _ h => h) (Or.inl ⟨by rfl, ?_⟩) rfl ?_
  rotate_left
  · rintro _ rfl; go_simp; first | done | with_reducible rfl
  refine wpAnyH_take (i := 3) (v := ?_) rfl (by kernel_rfl) (by kernel_rfl) (by kernel_rfl) (fun _ _ _ h => h) (Or.inl ⟨by rfl, ?_⟩) rfl ?_
  rotate_left
  · rintro _ rfl; go_simp; first | done | with_reducible rfl
  refine wpAnyH_take (i := 4) (v := ?_) rfl (by kernel_rfl) (by kernel_rfl) (by kernel_rfl) (fun _ _ _ h => h) (Or.inl ⟨by rfl, ?_⟩) rfl ?_
  rotate_left
  · rintro _ rfl; go_simp; first | done | with_reducible rfl
  refine wpAnyH_take (i := 5) (v := ?_) rfl (by kernel_rfl) (by kernel_rfl) (by kernel_rfl) (fun _ _ _ h => h) (Or.inl ⟨by rfl, ?_⟩) rfl ?_
  rotate_left
  · rintro _ rfl; go_simp; first | done | with_reducible rfl
  refine wpAnyH_take (i := 6) (v := ?_) rfl (by kernel_rfl) (by kernel_rfl) (by kernel_rfl) (fun _ _ _ h => h) (Or.inl ⟨by rfl, ?_⟩) rfl ?_
  rotate_left
  · rintro _ rfl; go_simp; first | done | with_reducible rfl
  refine wpAnyH_take (i := 7) (v := ?_) rfl (by kernel_rfl) (by kernel_rfl) (by kernel_rfl) (fun _ _ _ h => h) (Or.inl ⟨by rfl, ?_⟩) rfl ?_
  rotate_left
  · rintro _ rfl; go_simp; first | done | with_reducible rfl
  refine wpAnyH_take (i := 8) (v := ?_) rfl (by kernel_rfl) (by kernel_rfl) (by kernel_rfl) (fun _ _ _ h => h) (Or.inl ⟨by rfl, ?_⟩) rfl ?_
  rotate_left
  · rintro _ rfl; go_simp; first | done | with_reducible rfl
  refine wpAnyH_take (i := 9) (v := ?_) rfl (by kernel_rfl) (by kernel_rfl) (by kernel_rfl) (fun _ _ _ h => h) (Or.inl ⟨by rfl, ?_⟩) rfl ?_
  rotate_left
  · rintro _ rfl; go_simp; first | done | with_reducible rfl
  refine wpAnyH_take (i := 10) (v := ?_) rfl (by kernel_rfl) (by kernel_rfl) (by kernel_rfl) (fun _ _ _ h => h) (Or.inl ⟨by rfl, ?_⟩) rfl ?_
  rotate_left
  · rintro _ rfl; go_simp; first | done | with_reducible rfl
  refine wpAnyH_take (i := 11) (v := ?_) rfl (by kernel_rfl) (by kernel_rfl) (by kernel_rfl) (fun _ _ _ h => h) (Or.inl ⟨by rfl, ?_⟩) rfl ?_
  rotate_left
  · rintro _ rfl; go_simp; first | done | with_reducible rfl
  refine wpAnyH_all (rs := [12]) (by kernel_rfl) (by simp) ?_
  intro i hi
  simp only [List.mem_singleton] at hi
  subst hi
  refine wpOp_step (by rfl) fun K' _ => ?_
  rw [if_pos (by rfl)]
  unfold Oper.wp
  go_simp
  refine (must_no _).mono ?_
  rintro e w' ⟨rfl, rfl⟩
  exact ⟨rfl, hR⟩

theorem take_no (Rb : Nat) (S : ByteArray) (p Mk : Nat) (vt : Value) (n : Nat) (w : World) (h : RdAt w Rb S p Mk vt) (hp : S.size < p + n) (hpS : p ≤ S.size) (hS : S.size ≤ 1099511627776) :
    Calls Tryz.prog 236 #[.pointer (some ⟨Rb, 0, none⟩), .int .i64 n] w fun e w' => e = .panicked [dmgE] ∧ FrameF (· = Rb) w w' ∧ w'.heap.size = w.heap.size :=
  take_out _ Rb S p Mk vt n w h hp hpS hS ⟨rfl, ⟨rfl, rfl, rfl, Nat.le_refl _, fun _ _ _ => rfl⟩, rfl⟩

/-- The reader, by what is left to be read. -/
def RdR (w : World) (Rb : Nat) (S : ByteArray) (rest : Wd) (Mk : Nat) (vt : Value) : Prop := ∃ p : Nat, RdAt w Rb S p Mk vt ∧ p ≤ S.size ∧ S.data.toList.drop p = rest

/-- How a reading ends: as X says. -/
def Ends {α : Type} (F : Nat → Prop) (w : World) (X : Option α) (ok : α → Ending → World → Prop) (e : Ending) (w' : World) : Prop := FrameF F w w' ∧ match X with
  | some x => ok x e w'
  | none => e = .panicked [dmgE]

theorem take_any (Rb : Nat) (S : ByteArray) (rest : Wd) (Mk : Nat) (vt : Value) (n : Nat) (w : World) (h : RdR w Rb S rest Mk vt) (hS : S.size ≤ 1099511627776) :
    Calls Tryz.prog 236 #[.pointer (some ⟨Rb, 0, none⟩), .int .i64 n] w (Ends (· = Rb) w (rdTake n rest) fun x e w' => e = .returned (.string ⟨x.1.toArray⟩) ∧ RdR w' Rb S x.2 Mk vt ∧ w'.heap.size = w.heap.size) := by
  obtain ⟨p, h1, h2, rfl⟩ := h
  have hl : (S.data.toList.drop p).length = S.size - p := by simp
  unfold rdTake
  by_cases hn : n ≤ (S.data.toList.drop p).length
  · rw [if_pos hn]
    refine (take_yes Rb S p Mk vt n w h1 (by omega) hS).mono ?_
    rintro e w' ⟨rfl, g1, g2, g3⟩
    refine ⟨g2, ?_, ⟨p + n, g1, by omega, by simp⟩, g3⟩
    rw [ext_mid]
  · rw [if_neg hn]
    refine (take_no Rb S p Mk vt n w h1 (by omega) h2 hS).mono ?_
    rintro e w' ⟨rfl, g2, g3⟩
    exact ⟨g2, rfl⟩

set_option maxHeartbeats 1000000 in
set_option maxRecDepth 100000 in
theorem number_any (Rb : Nat) (S : ByteArray) (rest : Wd) (Mk : Nat) (vt : Value) (w : World) (h : RdR w Rb S rest Mk vt) (hS : S.size ≤ 1099511627776) :
    Calls Tryz.prog 233 #[.pointer (some ⟨Rb, 0, none⟩)] w (Ends (· = Rb) w (rdNum rest) fun x e w' => e = .returned (.int .i64 x.1) ∧ RdR w' Rb S x.2 Mk vt ∧ w'.heap.size = w.heap.size) := by
  have ht := take_any Rb S rest Mk vt 1 w h hS
  clear h hS
  cases rest with
  | nil =>
    go_enter Tryz.func233, Tryz.ntmps233
    go_wp2_with fail
    refine ht.mono ?_
    rintro e w' ⟨g1, g2⟩
    simp [rdTake] at g2
    subst g2
    exact ⟨rfl, g1, rfl⟩
  | cons b r =>
    go_enter Tryz.func233, Tryz.ntmps233
    go_wp2_with fail
    refine ht.mono ?_
    rintro e w' ⟨g1, g2⟩
    simp only [rdTake, List.length_cons, Nat.le_add_left, if_true, List.take_succ_cons, List.take_zero, List.drop_succ_cons, List.drop_zero] at g2
    obtain ⟨rfl, g3, g4⟩ := g2
    have HG : Hid (FrameF (· = Rb) w w' ∧ RdR w' Rb S r Mk vt ∧ w'.heap.size = w.heap.size) := ⟨g1, g3, g4⟩
    clear g1 g3 g4 ht
    go_wp2
    go_ret
    refine ⟨HG.out.1, ?_, HG.out.2.1, HG.out.2.2⟩
    have hb := b.toNat_lt
    show Ending.returned (.int .i64 (wrap64 ((b.toNat : Nat) : Int))) = .returned (.int .i64 (b.toNat : Nat))
    refine ret_int ?_
    unfold wrap64
    omega

end Go.Proofs.YtocbogeoffeolaaGreatDoor

namespace Go.Proofs.YtocbogeoffeolaaGreatDoor
open Go.RowKit

theorem FrameF.then {F : Nat → Prop} {a b c : World} (h : FrameF F a b) (k : FrameF F b c) : FrameF F a c := h.trans k (fun _ _ h => h)

set_option maxHeartbeats 1000000 in
set_option maxRecDepth 100000 in
theorem text_any (Rb : Nat) (S : ByteArray) (rest : Wd) (Mk : Nat) (vt : Value) (w : World) (h : RdR w Rb S rest Mk vt) (hS : S.size ≤ 1099511627776) :
    Calls Tryz.prog 213 #[.pointer (some ⟨Rb, 0, none⟩)] w (Ends (· = Rb) w (rdText rest) fun x e w' => e = .returned (.string ⟨x.1.toArray⟩) ∧ RdR w' Rb S x.2 Mk vt ∧ w'.heap.size = w.heap.size) := by
  have ht := number_any Rb S rest Mk vt w h hS
  unfold rdText
  clear h
  cases hn : rdNum rest with
  | none =>
    rw [hn] at ht
    clear hn
    go_enter Tryz.func213, Tryz.ntmps213
    go_wp2_with fail
    refine ht.mono ?_
    rintro e w' ⟨g1, rfl⟩
    exact ⟨rfl, g1, rfl⟩
  | some x =>
    obtain ⟨n, r⟩ := x
    rw [hn] at ht
    clear hn
    go_enter Tryz.func213, Tryz.ntmps213
    go_wp2_with fail
    refine ht.mono ?_
    rintro e w1 ⟨g1, rfl, g2, g3⟩
    have ht2 := take_any Rb S r Mk vt n w1 g2 hS
    clear ht g2
    cases hn : rdTake n r with
    | none =>
      rw [hn] at ht2
      go_wp2_with fail
      refine ht2.mono ?_
      rintro e w2 ⟨g4, rfl⟩
      exact ⟨rfl, g1.then g4, by simp only [Option.bind_some, hn]⟩
    | some y =>
      rw [hn] at ht2
      have HN : Hid (rdTake n r = some y) := hn
      clear hn
      go_wp2_with fail
      refine ht2.mono ?_
      rintro e w2 ⟨g4, rfl, g5, g6⟩
      have HF : Hid (FrameF (· = Rb) w w2 ∧ RdR w2 Rb S y.2 Mk vt ∧ w2.heap.size = w.heap.size) := ⟨g1.then g4, g5, by omega⟩
      clear g1 g3 g4 g5 g6 ht2
      go_wp2
      go_ret
      refine ⟨HF.out.1, ?_⟩
      simp only [Option.bind_some, HN.out]
      exact ⟨rfl, HF.out.2⟩

theorem ofInt_nat (n : Nat) (h : n < 18446744073709551616) : (BitVec.ofInt 64 (n : Int)).toNat = n := by
  rw [BitVec.toNat_ofInt]
  omega
theorem or_nat (x y : Nat) (hx : x < 4294967296) (hy : y < 4294967296) : bits .or .i64 (x : Int) (y : Int) = ((x ||| y : Nat) : Int) := by
  show IntKind.i64.wrap ((BitVec.ofInt 64 (x : Int) ||| BitVec.ofInt 64 (y : Int)).toNat : Int) = _
  rw [BitVec.toNat_or, ofInt_nat x (by omega), ofInt_nat y (by omega)]
  have h : x ||| y < 2 ^ 32 := Nat.or_lt_two_pow (by omega) (by omega)
  rw [IntKind.wrap_i64]
  omega
theorem weight_sum (a b c : UInt8) : bits BinOp.or IntKind.i64 (bits BinOp.or IntKind.i64 (wrap64 (wrap64 (a.toNat : Int) * 65536)) (wrap64 (wrap64 (b.toNat : Int) * 256))) (wrap64 (c.toNat : Int)) = ((a.toNat * 65536 + b.toNat * 256 + c.toNat : Nat) : Int) := by
  have ha := a.toNat_lt
  have hb := b.toNat_lt
  have hc := c.toNat_lt
  have e1 : wrap64 (wrap64 (a.toNat : Int) * 65536) = ((a.toNat <<< 16 : Nat) : Int) := by rw [Nat.shiftLeft_eq]; unfold wrap64; omega
  have e2 : wrap64 (wrap64 (b.toNat : Int) * 256) = ((b.toNat <<< 8 : Nat) : Int) := by rw [Nat.shiftLeft_eq]; unfold wrap64; omega
  have e3 : wrap64 (c.toNat : Int) = (c.toNat : Int) := by unfold wrap64; omega
  have l1 : a.toNat <<< 16 < 4294967296 := by rw [Nat.shiftLeft_eq]; omega
  have l2 : b.toNat <<< 8 < 2 ^ 16 := by rw [Nat.shiftLeft_eq]; omega
  have j1 : a.toNat <<< 16 ||| b.toNat <<< 8 = a.toNat <<< 16 + b.toNat <<< 8 := (Nat.shiftLeft_add_eq_or_of_lt l2 _).symm
  have j2 : (a.toNat <<< 16 + b.toNat <<< 8) ||| c.toNat = a.toNat <<< 16 + b.toNat <<< 8 + c.toNat := by
    have : a.toNat <<< 16 + b.toNat <<< 8 = (a.toNat * 256 + b.toNat) <<< 8 := by simp only [Nat.shiftLeft_eq]; omega
    rw [this]
    exact (Nat.shiftLeft_add_eq_or_of_lt (by omega) _).symm
  rw [e1, e2, e3, or_nat _ _ l1 (by omega), j1, or_nat _ _ (by simp only [Nat.shiftLeft_eq]; omega) (by omega), j2]
  simp only [Nat.shiftLeft_eq]

set_option maxHeartbeats 1000000 in
set_option maxRecDepth 100000 in
theorem weight_any (Rb : Nat) (S : ByteArray) (rest : Wd) (Mk : Nat) (vt : Value) (w : World) (h : RdR w Rb S rest Mk vt) (hS : S.size ≤ 1099511627776) :
    Calls Tryz.prog 237 #[.pointer (some ⟨Rb, 0, none⟩)] w (Ends (· = Rb) w (rdWeight rest) fun x e w' => e = .returned (.int .i64 x.1) ∧ RdR w' Rb S x.2 Mk vt ∧ w'.heap.size = w.heap.size) := by
  have ht := take_any Rb S rest Mk vt 3 w h hS
  clear h hS
  have hbad : ∀ rest : Wd, rest.length < 3 → Calls Tryz.prog 236 #[.pointer (some ⟨Rb, 0, none⟩), .int .i64 3] w (Ends (· = Rb) w (rdTake 3 rest) fun x e w' => e = .returned (.string ⟨x.1.toArray⟩) ∧ RdR w' Rb S x.2 Mk vt ∧ w'.heap.size = w.heap.size) → rdWeight rest = none →
      Calls Tryz.prog 237 #[.pointer (some ⟨Rb, 0, none⟩)] w (Ends (· = Rb) w (rdWeight rest) fun x e w' => e = .returned (.int .i64 x.1) ∧ RdR w' Rb S x.2 Mk vt ∧ w'.heap.size = w.heap.size) := by
    intro rest hl ht hw
    have hn : rdTake 3 rest = none := by unfold rdTake; rw [if_neg (by omega)]
    rw [hn] at ht
    rw [hw]
    go_enter Tryz.func237, Tryz.ntmps237
    go_wp2_with fail
    refine ht.mono ?_
    rintro e w' ⟨g1, rfl⟩
    exact ⟨rfl, g1, rfl⟩
  match rest, ht with
  | [], ht => exact hbad _ (by simp) ht rfl
  | [_], ht => exact hbad _ (by simp) ht rfl
  | [_, _], ht => exact hbad _ (by simp) ht rfl
  | a :: b :: c :: r, ht =>
    clear hbad
    have hn : rdTake 3 (a :: b :: c :: r) = some ([a, b, c], r) := by unfold rdTake; rw [if_pos (by simp)]; rfl
    rw [hn] at ht
    clear hn
    have i0 : (0 : Int) < ((3 : Nat) : Int) := by omega
    have hsz : (⟨[a, b, c].toArray⟩ : ByteArray).size = 3 := rfl
    have k0 : (⟨[a, b, c].toArray⟩ : ByteArray)[0]'(by rw [hsz]; omega) = a := rfl
    have k1 : (⟨[a, b, c].toArray⟩ : ByteArray)[1]'(by rw [hsz]; omega) = b := rfl
    have k2 : (⟨[a, b, c].toArray⟩ : ByteArray)[2]'(by rw [hsz]; omega) = c := rfl
    generalize (⟨[a, b, c].toArray⟩ : ByteArray) = T at *
    go_enter Tryz.func237, Tryz.ntmps237
    go_wp2_with fail
    refine ht.mono ?_
    rintro e w1 ⟨g1, rfl, g2, g3⟩
    have HF : Hid (FrameF (· = Rb) w w1 ∧ RdR w1 Rb S r Mk vt ∧ w1.heap.size = w.heap.size) := ⟨g1, g2, g3⟩
    clear g1 g2 g3 ht
    go_wp2_with fail
    go_quiet (fail)
    go_wp2
    go_ret
    refine ⟨⟨HF.out.1.os, HF.out.1.tape, HF.out.1.output, HF.out.1.size, HF.out.1.block⟩, ?_, HF.out.2.1, HF.out.2.2⟩
    exact ret_int (weight_sum a b c)

end Go.Proofs.YtocbogeoffeolaaGreatDoor

namespace Go.Proofs.YtocbogeoffeolaaGreatDoor
open Go.RowKit Go.Maps

set_option maxHeartbeats 400000 in
theorem pisName_any (s : ByteArray) (w : World) (hs : s.size ≤ maxLen) :
    Calls Tryz.prog 69 #[.string s] w fun e w' => e = .returned (.bool (nameB s.data.toList)) ∧ w = w' := by
  unfold maxLen at hs
  by_cases h0 : 0 < s.size
  · by_cases h8 : s.size ≤ 8
    · go_enter Tryz.func69, Tryz.ntmps69
      go_wp2
      go_loop [14] (fun i => ∃ k : Nat, k ≤ s.size ∧ i = .int .i64 k ∧ (s.data.toList.take k).all letterB = true) (fun i => s.size - (intOf i).toNat)
      case atStart => exact ⟨0, Nat.zero_le _, rfl, rfl⟩
      case round =>
        obtain ⟨k, hk, rfl, hall⟩ := hrel
        have HA : Hid ((s.data.toList.take k).all letterB = true) := hall
        clear hall
        by_cases hlt : k < s.size
        · have HS : Hid (s.data.toList.take (k + 1) = s.data.toList.take k ++ [s[k]]) := take_snoc s k hlt
          go_wp2_with fail
          refine (wordByte_any _ _).mono ?_
          rintro e w' ⟨rfl, rfl⟩
          cases hp : letterB s[k] with
          | true =>
            have HP : Hid (letterB s[k] = true) := hp
            clear hp
            go_wp2
            go_round
            case rel => exact ⟨k + 1, by omega, by go_num, by rw [HS.out, List.all_append, HA.out]; simp [HP.out]⟩
            case measure => simp [intOf]; omega
          | false =>
            have HP : Hid (letterB s[k] = false) := hp
            clear hp
            go_wp2
            go_ret
            refine ⟨ret_bool ?_, rfl⟩
            symm
            rw [Bool.eq_false_iff]
            intro hq
            simp only [nameB, Bool.and_eq_true] at hq
            have := List.all_eq_true.1 hq.1.1 _ (mem_get s k hlt)
            rw [HP.out] at this
            simp at this
        · go_wp2
          go_ret
          refine ⟨ret_bool ?_, rfl⟩
          have e : s.data.toList.take k = s.data.toList := List.take_of_length_le (by simp; omega)
          have HA2 := HA.out
          rw [e] at HA2
          unfold nameB
          rw [HA2]
          simp
          omega
    · go_enter Tryz.func69, Tryz.ntmps69
      go_wp2
      go_ret
      refine ⟨ret_bool ?_, rfl⟩
      simp [nameB]
      omega
  · go_enter Tryz.func69, Tryz.ntmps69
    go_wp2
    go_ret
    refine ⟨ret_bool ?_, rfl⟩
    simp [nameB]
    omega

/-- What a layer says of a name. -/
def inN (e : Ent) : Wd := if e.gone then [] else e.name
def sayV (e : Ent) : Value := .agg #[.bool e.gone, .string ⟨(inN e).toArray⟩, .string ⟨e.text.toArray⟩, .int .i64 e.weight, .int .i64 e.tags]
def sayP (e : Ent) : Wd × Value := (e.name, sayV e)
def knP (e : Ent) : Wd × Value := (e.name, .agg #[])
/-- A map that says what these entries say. -/
def SayM (w : World) (B : Nat) (es : List Ent) : Prop := MapL Tryz.prog 9 w B (es.map sayP)
def tellV (Bx : Nat) : Value := .func (.func 130) #[] #[.pointer (some ⟨Bx, 0, none⟩)]

/-- How things stand while a segment is read. -/
structure RS (w : World) (Rb Mk Bx Bs : Nat) (S : ByteArray) (rest : Wd) (told : List Ent) : Prop where
  rd : RdR w Rb S rest Mk (tellV Bx)
  kn : MapL Tryz.prog 9 w Mk (told.map knP)
  bx : w.heap[Bx]? = some (.cells #[.map (some Bs)] 85 (0, 0))
  sd : SayM w Bs told
  few : told.length + rest.length ≤ S.size
  ne : Mk ≠ Bs
def GR (Rb Mk Bs : Nat) (k : Nat) : Prop := k = Rb ∨ k = Mk ∨ k = Bs

theorem MapL.map {P : Program} {k : TypeId} {w : World} {B : Nat} {l : List (Wd × Value)} (h : MapL P k w B l) : ∃ es clock, w.heap[B]? = some (.map es clock) := by
  obtain ⟨D, ⟨es, clock, h1, _⟩, _⟩ := h
  exact ⟨es, clock, h1⟩
theorem MapL.cells_ne {P : Program} {k : TypeId} {w : World} {B b : Nat} {l : List (Wd × Value)} (h : MapL P k w B l) {cs : Array Value} {t : TypeId} {fz : Nat × Nat} (hb : w.heap[b]? = some (.cells cs t fz)) : B ≠ b := by
  obtain ⟨es, clock, h1⟩ := h.map
  intro e
  rw [e, hb] at h1
  cases h1
theorem RS.ner {w : World} {Rb Mk Bx Bs : Nat} {S : ByteArray} {rest : Wd} {told : List Ent} (h : RS w Rb Mk Bx Bs S rest told) : Mk ≠ Rb ∧ Bs ≠ Rb ∧ Bx ≠ Rb ∧ Mk ≠ Bx ∧ Bs ≠ Bx := by
  obtain ⟨p, h1, _⟩ := h.rd
  refine ⟨h.kn.cells_ne h1, MapL.cells_ne h.sd h1, ?_, h.kn.cells_ne h.bx, MapL.cells_ne h.sd h.bx⟩
  intro e
  have := h.bx
  unfold RdAt at h1
  rw [e, h1] at this
  simp at this
theorem heap_lt {w : World} {k : Nat} {o : Obj} (h : w.heap[k]? = some o) : k < w.heap.size := (Array.getElem?_eq_some_iff.1 h).1
/-- Only the reader's own block has turned. -/
theorem RS.turn {w w' : World} {Rb Mk Bx Bs : Nat} {S : ByteArray} {rest r : Wd} {told : List Ent} (h : RS w Rb Mk Bx Bs S rest told) (hf : FrameF (· = Rb) w w') (hr : RdR w' Rb S r Mk (tellV Bx)) (hl : r.length ≤ rest.length) : RS w' Rb Mk Bx Bs S r told := by
  obtain ⟨n1, n2, n3, n4, n5⟩ := h.ner
  refine ⟨hr, h.kn.stay (hf.block _ h.kn.lt n1), ?_, MapL.stay h.sd (hf.block _ (MapL.lt h.sd) n2), by have := h.few; omega, h.ne⟩
  rw [hf.block Bx (heap_lt h.bx) n3]
  exact h.bx
theorem RS.below {w w' : World} {Rb Mk Bx Bs : Nat} {S : ByteArray} {rest : Wd} {told : List Ent} (h : RS w Rb Mk Bx Bs S rest told) (hb : Below w.heap.size w w') : RS w' Rb Mk Bx Bs S rest told := by
  obtain ⟨p, h1, h2⟩ := h.rd
  refine ⟨⟨p, ?_, h2⟩, h.kn.below hb, ?_, MapL.below h.sd hb, h.few, h.ne⟩
  · unfold RdAt at h1 ⊢
    rw [hb.block Rb (heap_lt h1)]; exact h1
  · rw [hb.block Bx (heap_lt h.bx)]; exact h.bx
/-- A block of another kind has turned. -/
theorem RS.far {w w' : World} {Rb Mk Bx Bs b : Nat} {S : ByteArray} {rest : Wd} {told : List Ent} {cs : Array Value} {t : TypeId} {fz : Nat × Nat} (h : RS w Rb Mk Bx Bs S rest told) (hb : w.heap[b]? = some (.cells cs t fz)) (h1 : t ≠ 216) (h2 : t ≠ 85) (hf : FrameF (· = b) w w') : RS w' Rb Mk Bx Bs S rest told := by
  obtain ⟨p, g1, g2⟩ := h.rd
  refine ⟨⟨p, ?_, g2⟩, h.kn.stay (hf.block _ h.kn.lt (h.kn.cells_ne hb)), ?_, MapL.stay h.sd (hf.block _ (MapL.lt h.sd) (MapL.cells_ne h.sd hb)), h.few, h.ne⟩
  · unfold RdAt at g1 ⊢
    rw [hf.block Rb (heap_lt g1) (fun e => by subst e; rw [hb] at g1; simp at g1; exact h1 g1.2.1)]; exact g1
  · have hx := h.bx
    rw [hf.block Bx (heap_lt hx) (fun e => by subst e; rw [hb] at hx; simp at hx; exact h2 hx.2.1)]; exact hx
theorem FrameF.toGR {Rb Mk Bs : Nat} {w w' : World} (h : FrameF (· = Rb) w w') : FrameF (GR Rb Mk Bs) w w' := h.mono (fun _ hk => Or.inl hk)
theorem names_any (told : List Ent) (x : Wd) : ((told.map knP).any fun p => p.1 == x) = decide (x ∈ told.map Ent.name) := by
  rw [Bool.eq_iff_iff, decide_eq_true_eq, List.any_eq_true, List.mem_map]
  constructor
  · rintro ⟨p, hp, h⟩
    obtain ⟨e, he, rfl⟩ := List.mem_map.1 hp
    exact ⟨e, he, by simpa [knP] using h⟩
  · rintro ⟨e, he, rfl⟩
    exact ⟨knP e, List.mem_map.2 ⟨e, he, rfl⟩, by simp [knP]⟩
theorem look_unit (told : List Ent) (x : Wd) : lookP (told.map knP) x (.agg #[]) = .agg #[] := by
  unfold lookP
  split
  · rename_i p hp
    obtain ⟨e, _, rfl⟩ := List.mem_map.1 (List.mem_of_find?_eq_some hp)
    rfl
  · rfl

theorem rdName_eq (ks : List Wd) (last bs : Wd) : rdName ks last bs = (rdText bs).bind fun x => if nameB x.1 = true ∧ Op.bytesLess last x.1 = true ∧ x.1 ∉ ks then some x else none := rfl

theorem gt_eq (x y : Wd) : (!Op.bytesLess x y && !x == y) = Op.bytesLess y x := by
  rcases bl_total x y with h | h | h
  · rw [h, bl_asym h]; rfl
  · subst h; rw [bl_irrefl]; simp
  · rw [h, bl_asym h]
    have : (x == y) = false := by rw [beq_eq_false_iff_ne]; exact fun e => bl_ne h e.symm
    rw [this]; rfl

theorem Tryz.zero263 (w : World) : (zeroValue 263).run Tryz.prog w = .ok (.agg #[]) w := by kernel_rfl

set_option maxHeartbeats 1000000 in
set_option maxRecDepth 100000 in
theorem nameBehind_any (Rb Mk Bx Bs : Nat) (S : ByteArray) (rest : Wd) (told : List Ent) (last : Wd) (w : World) (h : RS w Rb Mk Bx Bs S rest told) (hS : S.size ≤ 1099511627776) :
    Calls Tryz.prog 234 #[.pointer (some ⟨Rb, 0, none⟩), .string ⟨last.toArray⟩] w (Ends (GR Rb Mk Bs) w (rdName (told.map Ent.name) last rest) fun x e w' => e = .returned (.string ⟨x.1.toArray⟩) ∧ RS w' Rb Mk Bx Bs S x.2 told) := by
  have ht := text_any Rb S rest Mk (tellV Bx) w h.rd hS
  have HR : Hid (RS w Rb Mk Bx Bs S rest told) := h
  rw [rdName_eq]
  clear h
  cases hx : rdText rest with
  | none =>
    rw [hx] at ht
    go_enter Tryz.func234, Tryz.ntmps234
    go_wp2_with fail
    refine ht.mono ?_
    rintro e w' ⟨g1, rfl⟩
    exact ⟨rfl, g1.toGR, rfl⟩
  | some x =>
    obtain ⟨nm, r⟩ := x
    rw [hx] at ht
    obtain ⟨hrest, h256⟩ := rdText_some hx
    have hrl : r.length ≤ rest.length := by rw [hrest]; simp
    clear hx hrest
    have hns : (⟨nm.toArray⟩ : ByteArray).size ≤ maxLen := by show nm.toArray.size ≤ maxLen; unfold maxLen; simp; omega
    have hnl : nm.length ≤ maxLen := by unfold maxLen; omega
    have HX : Hid ((some (nm, r)).bind (fun x : Wd × Wd => if nameB x.1 = true ∧ Op.bytesLess last x.1 = true ∧ x.1 ∉ told.map Ent.name then some x else none) = if nameB nm = true ∧ Op.bytesLess last nm = true ∧ nm ∉ told.map Ent.name then some (nm, r) else none) := rfl
    rw [HX.out]
    clear HX
    by_cases hnm : nameB nm = true
    · cases hls : Op.bytesLess last nm with
      | true =>
        have hl2 : Op.bytesLess (⟨last.toArray⟩ : ByteArray).toList (⟨nm.toArray⟩ : ByteArray).toList = true := by rw [ByteArray.toList_eq, ByteArray.toList_eq]; exact hls
        by_cases hk : nm ∈ told.map Ent.name
        · rw [if_neg (fun h => h.2.2 hk)]
          go_enter Tryz.func234, Tryz.ntmps234
          go_wp2_with fail
          refine ht.mono ?_
          rintro e w1 ⟨g1, rfl, g2, g3⟩
          have HR1 : Hid (RS w1 Rb Mk Bx Bs S r told) := HR.out.turn g1 g2 hrl
          have HF1 : Hid (FrameF (· = Rb) w w1) := g1
          clear g1 g2 g3 ht
          go_wp2_with fail
          refine (pisName_any _ _ hns).mono ?_
          rintro e w' ⟨rfl, rfl⟩
          rw [show nameB (⟨nm.toArray⟩ : ByteArray).data.toList = true from hnm]
          clear hl2
          go_wp2_with fail
          rw [gt_eq, hls]
          refine (must_yes _).mono ?_
          rintro e w' ⟨rfl, rfl⟩
          have hc2 : w1.cell? ⟨Rb, 2, none⟩ = some (.map (some Mk)) := by
            obtain ⟨p, h1, _⟩ := HR1.out.rd
            rw [cell_of_heap h1]; rfl
          have hlk := (HR1.out.kn.look Tryz.underlying9 Tryz.underlying214 (Tryz.zero263 w1) nm hnl).2
          rw [look_unit, names_any, decide_eq_true hk] at hlk
          clear hls hnm
          go_wp2_with fail
          refine (must_no _).mono ?_
          rintro e w' ⟨rfl, rfl⟩
          exact ⟨rfl, HF1.out.toGR.then (FrameF.of_below ((Below.refl _ _).alloc (Nat.le_refl _) _)), rfl⟩
        · rw [if_pos ⟨hnm, rfl, hk⟩]
          go_enter Tryz.func234, Tryz.ntmps234
          go_wp2_with fail
          refine ht.mono ?_
          rintro e w1 ⟨g1, rfl, g2, g3⟩
          have HR1 : Hid (RS w1 Rb Mk Bx Bs S r told) := HR.out.turn g1 g2 hrl
          have HF1 : Hid (FrameF (· = Rb) w w1) := g1
          clear g1 g2 g3 ht
          go_wp2_with fail
          refine (pisName_any _ _ hns).mono ?_
          rintro e w' ⟨rfl, rfl⟩
          rw [show nameB (⟨nm.toArray⟩ : ByteArray).data.toList = true from hnm]
          clear hl2
          go_wp2_with fail
          rw [gt_eq, hls]
          refine (must_yes _).mono ?_
          rintro e w' ⟨rfl, rfl⟩
          have hc2 : w1.cell? ⟨Rb, 2, none⟩ = some (.map (some Mk)) := by
            obtain ⟨p, h1, _⟩ := HR1.out.rd
            rw [cell_of_heap h1]; rfl
          have hlk := (HR1.out.kn.look Tryz.underlying9 Tryz.underlying214 (Tryz.zero263 w1) nm hnl).2
          rw [look_unit, names_any, decide_eq_false hk] at hlk
          clear hls hnm
          go_wp2_with fail
          refine (must_yes _).mono ?_
          rintro e w' ⟨rfl, rfl⟩
          go_wp2
          go_ret
          have hb := (Below.refl w1.heap.size w1).alloc (Nat.le_refl _) (.cells #[] 263)
          exact ⟨HF1.out.toGR.then (FrameF.of_below hb), rfl, HR1.out.below hb⟩
      | false =>
        have hl2 : Op.bytesLess (⟨last.toArray⟩ : ByteArray).toList (⟨nm.toArray⟩ : ByteArray).toList = false := by rw [ByteArray.toList_eq, ByteArray.toList_eq]; exact hls
        rw [if_neg (fun h => by simp at h)]
        go_enter Tryz.func234, Tryz.ntmps234
        go_wp2_with fail
        refine ht.mono ?_
        rintro e w1 ⟨g1, rfl, g2, g3⟩
        have HR1 : Hid (RS w1 Rb Mk Bx Bs S r told) := HR.out.turn g1 g2 hrl
        have HF1 : Hid (FrameF (· = Rb) w w1) := g1
        clear g1 g2 g3 ht
        go_wp2_with fail
        refine (pisName_any _ _ hns).mono ?_
        rintro e w' ⟨rfl, rfl⟩
        rw [show nameB (⟨nm.toArray⟩ : ByteArray).data.toList = true from hnm]
        clear hl2
        go_wp2_with fail
        rw [gt_eq, hls]
        refine (must_no _).mono ?_
        rintro e w' ⟨rfl, rfl⟩
        exact ⟨rfl, HF1.out.toGR, rfl⟩
    · have hnm' : nameB nm = false := by simpa using hnm
      rw [if_neg (fun h => hnm h.1)]
      go_enter Tryz.func234, Tryz.ntmps234
      go_wp2_with fail
      refine ht.mono ?_
      rintro e w1 ⟨g1, rfl, g2, g3⟩
      have HR1 : Hid (RS w1 Rb Mk Bx Bs S r told) := HR.out.turn g1 g2 hrl
      have HF1 : Hid (FrameF (· = Rb) w w1) := g1
      clear g1 g2 g3 ht
      go_wp2_with fail
      refine (pisName_any _ _ hns).mono ?_
      rintro e w' ⟨rfl, rfl⟩
      rw [show nameB (⟨nm.toArray⟩ : ByteArray).data.toList = false from hnm']
      go_wp2_with fail
      refine (must_no _).mono ?_
      rintro e w' ⟨rfl, rfl⟩
      exact ⟨rfl, HF1.out.toGR, rfl⟩

def entV (e : Ent) : Value := .agg #[.string ⟨e.name.toArray⟩, .string ⟨e.text.toArray⟩, .int .i64 e.weight, .int .i64 e.tags]

set_option maxHeartbeats 2000000 in
set_option maxRecDepth 100000 in
theorem entry_any (Rb Mk Bx Bs : Nat) (S : ByteArray) (rest : Wd) (told : List Ent) (nm : Wd) (w : World) (h : RS w Rb Mk Bx Bs S rest told) (hS : S.size ≤ 1099511627776) :
    Calls Tryz.prog 266 #[.pointer (some ⟨Rb, 0, none⟩), .string ⟨nm.toArray⟩] w (Ends (GR Rb Mk Bs) w (rdEntry nm rest) fun x e w' => e = .returned (entV x.1) ∧ RS w' Rb Mk Bx Bs S x.2 told) := by
  obtain ⟨w0, hw0⟩ : ∃ w0, w.alloc (.cells #[.string ⟨#[]⟩, .string ⟨#[]⟩, .int .i64 0, .int .i64 0] 96) = w0 := ⟨_, rfl⟩
  have hb0 : Below w.heap.size w w0 := by rw [← hw0]; exact (Below.refl _ _).alloc (Nat.le_refl _) _
  have hh0 : w0.heap[w.heap.size]? = some (.cells #[.string ⟨#[]⟩, .string ⟨#[]⟩, .int .i64 0, .int .i64 0] 96 (0, 0)) := by rw [← hw0]; exact heap_alloc_new w _
  have HR0 : Hid (RS w0 Rb Mk Bx Bs S rest told) := h.below hb0
  have HF0 : Hid (FrameF (GR Rb Mk Bs) w w0) := FrameF.of_below hb0
  have hRl : Rb < w.heap.size := by
    obtain ⟨p, h1, _⟩ := h.rd
    exact heap_lt h1
  have HH0 : Hid (w0.heap[w.heap.size]? = some (.cells #[.string ⟨#[]⟩, .string ⟨#[]⟩, .int .i64 0, .int .i64 0] 96 (0, 0))) := hh0
  have ht := text_any Rb S rest Mk (tellV Bx) w0 HR0.out.rd hS
  clear h hb0 hh0
  unfold rdEntry
  cases hx : rdText rest with
  | none =>
    rw [hx] at ht
    clear hx
    go_enter Tryz.func266, Tryz.ntmps266
    go_wp2_with fail
    refine ht.mono ?_
    rintro e w' ⟨g1, rfl⟩
    exact ⟨rfl, HF0.out.then g1.toGR, rfl⟩
  | some x =>
    obtain ⟨tx, r⟩ := x
    rw [hx] at ht
    obtain ⟨hrest, h256⟩ := rdText_some hx
    have hrl : r.length ≤ rest.length := by rw [hrest]; simp
    clear hx hrest
    have hns : (⟨tx.toArray⟩ : ByteArray).size ≤ maxLen := by show tx.toArray.size ≤ maxLen; unfold maxLen; simp; omega
    go_enter Tryz.func266, Tryz.ntmps266
    go_wp2_with fail
    clear hw0
    refine ht.mono ?_
    rintro e w1 ⟨g1, rfl, g2, g3⟩
    have HR1 : Hid (RS w1 Rb Mk Bx Bs S r told) := HR0.out.turn g1 g2 hrl
    have HF1 : Hid (FrameF (GR Rb Mk Bs) w w1) := HF0.out.then g1.toGR
    have HH1 : Hid (w1.heap[w.heap.size]? = some (.cells #[.string ⟨#[]⟩, .string ⟨#[]⟩, .int .i64 0, .int .i64 0] 96 (0, 0))) := by show _ = _; rw [g1.block _ (heap_lt HH0.out) (by show w.heap.size ≠ Rb; omega)]; exact HH0.out
    clear g1 g2 g3 ht HR0 HF0 HH0
    go_wp2_with fail
    refine (isText_any _ _ hns).mono ?_
    rintro e w' ⟨rfl, rfl⟩
    have HX : Hid ((some (tx, r)).bind (fun x : Wd × Wd => if queryB x.1 = true ∧ x.1 ≠ [] then (rdWeight x.2).bind fun y => if y.1 ≤ 1000000 then (rdNum y.2).bind fun z => some ((⟨nm, false, x.1, y.1, z.1⟩ : Ent), z.2) else none else none) = if queryB tx = true ∧ tx ≠ [] then (rdWeight r).bind fun y => if y.1 ≤ 1000000 then (rdNum y.2).bind fun z => some ((⟨nm, false, tx, y.1, z.1⟩ : Ent), z.2) else none else none) := rfl
    by_cases hq : queryB tx = true ∧ tx ≠ []
    · rw [show decide (queryB (⟨tx.toArray⟩ : ByteArray).data.toList = true ∧ (⟨tx.toArray⟩ : ByteArray).data.toList ≠ []) = true from decide_eq_true hq]
      have HX1 : Hid ((some (tx, r)).bind (fun x : Wd × Wd => if queryB x.1 = true ∧ x.1 ≠ [] then (rdWeight x.2).bind fun y => if y.1 ≤ 1000000 then (rdNum y.2).bind fun z => some ((⟨nm, false, x.1, y.1, z.1⟩ : Ent), z.2) else none else none) = (rdWeight r).bind fun y => if y.1 ≤ 1000000 then (rdNum y.2).bind fun z => some ((⟨nm, false, tx, y.1, z.1⟩ : Ent), z.2) else none) := by show _ = _; rw [HX.out, if_pos hq]
      clear HX hq
      go_wp2_with fail
      refine (must_yes _).mono ?_
      rintro e w' ⟨rfl, rfl⟩
      have hw := weight_any Rb S r Mk (tellV Bx) w1 HR1.out.rd hS
      cases hx : rdWeight r with
      | none =>
        rw [hx] at hw
        have HX2 : Hid ((some (tx, r)).bind (fun x : Wd × Wd => if queryB x.1 = true ∧ x.1 ≠ [] then (rdWeight x.2).bind fun y => if y.1 ≤ 1000000 then (rdNum y.2).bind fun z => some ((⟨nm, false, x.1, y.1, z.1⟩ : Ent), z.2) else none else none) = none) := by show _ = _; rw [HX1.out, hx]; rfl
        clear hx
        go_wp2_with fail
        refine hw.mono ?_
        rintro e w' ⟨g1, rfl⟩
        exact ⟨rfl, HF1.out.then g1.toGR, by rw [HX2.out]⟩
      | some y =>
        obtain ⟨wt, r2⟩ := y
        rw [hx] at hw
        obtain ⟨hr2, hw24⟩ := rdWeight_some hx
        have hrl2 : r2.length ≤ r.length := by rw [hr2]; simp
        have HX2 : Hid ((some (tx, r)).bind (fun x : Wd × Wd => if queryB x.1 = true ∧ x.1 ≠ [] then (rdWeight x.2).bind fun y => if y.1 ≤ 1000000 then (rdNum y.2).bind fun z => some ((⟨nm, false, x.1, y.1, z.1⟩ : Ent), z.2) else none else none) = if wt ≤ 1000000 then (rdNum r2).bind fun z => some ((⟨nm, false, tx, wt, z.1⟩ : Ent), z.2) else none) := by show _ = _; rw [HX1.out, hx]; rfl
        clear hx hr2 HX1
        go_wp2_with fail
        refine hw.mono ?_
        rintro e w2 ⟨g1, rfl, g2, g3⟩
        have HR2 : Hid (RS w2 Rb Mk Bx Bs S r2 told) := HR1.out.turn g1 g2 hrl2
        have HF2 : Hid (FrameF (GR Rb Mk Bs) w w2) := HF1.out.then g1.toGR
        have HH2 : Hid (w2.heap[w.heap.size]? = some (.cells #[.string ⟨#[]⟩, .string ⟨#[]⟩, .int .i64 0, .int .i64 0] 96 (0, 0))) := by show _ = _; rw [g1.block _ (heap_lt HH1.out) (by show w.heap.size ≠ Rb; omega)]; exact HH1.out
        clear g1 g2 g3 hw HR1 HF1 HH1
        by_cases hmw : wt ≤ 1000000
        · have HX3 : Hid ((some (tx, r)).bind (fun x : Wd × Wd => if queryB x.1 = true ∧ x.1 ≠ [] then (rdWeight x.2).bind fun y => if y.1 ≤ 1000000 then (rdNum y.2).bind fun z => some ((⟨nm, false, x.1, y.1, z.1⟩ : Ent), z.2) else none else none) = (rdNum r2).bind fun z => some ((⟨nm, false, tx, wt, z.1⟩ : Ent), z.2)) := by show _ = _; rw [HX2.out, if_pos hmw]
          have hmi : (wt : Int) ≤ 1000000 := by omega
          clear HX2
          go_wp2_with fail
          refine (must_yes _).mono ?_
          rintro e w' ⟨rfl, rfl⟩
          have hn := number_any Rb S r2 Mk (tellV Bx) w2 HR2.out.rd hS
          cases hx : rdNum r2 with
          | none =>
            rw [hx] at hn
            have HX4 : Hid ((some (tx, r)).bind (fun x : Wd × Wd => if queryB x.1 = true ∧ x.1 ≠ [] then (rdWeight x.2).bind fun y => if y.1 ≤ 1000000 then (rdNum y.2).bind fun z => some ((⟨nm, false, x.1, y.1, z.1⟩ : Ent), z.2) else none else none) = none) := by show _ = _; rw [HX3.out, hx]; rfl
            clear hx
            go_wp2_with fail
            refine hn.mono ?_
            rintro e w' ⟨g1, rfl⟩
            exact ⟨rfl, HF2.out.then g1.toGR, by rw [HX4.out]⟩
          | some z =>
            obtain ⟨tg, r3⟩ := z
            rw [hx] at hn
            obtain ⟨hr3, ht8⟩ := rdNum_some hx
            have hrl3 : r3.length ≤ r2.length := by rw [hr3]; simp
            have HX4 : Hid ((some (tx, r)).bind (fun x : Wd × Wd => if queryB x.1 = true ∧ x.1 ≠ [] then (rdWeight x.2).bind fun y => if y.1 ≤ 1000000 then (rdNum y.2).bind fun z => some ((⟨nm, false, x.1, y.1, z.1⟩ : Ent), z.2) else none else none) = some ((⟨nm, false, tx, wt, tg⟩ : Ent), r3)) := by show _ = _; rw [HX3.out, hx]; rfl
            clear hx hr3 HX3
            go_wp2_with fail
            refine hn.mono ?_
            rintro e w3 ⟨g1, rfl, g2, g3⟩
            have HR3 : Hid (RS w3 Rb Mk Bx Bs S r3 told) := HR2.out.turn g1 g2 hrl3
            have HF3 : Hid (FrameF (GR Rb Mk Bs) w w3) := HF2.out.then g1.toGR
            have HH3 : Hid (w3.heap[w.heap.size]? = some (.cells #[.string ⟨#[]⟩, .string ⟨#[]⟩, .int .i64 0, .int .i64 0] 96 (0, 0))) := by show _ = _; rw [g1.block _ (heap_lt HH2.out) (by show w.heap.size ≠ Rb; omega)]; exact HH2.out
            clear g1 g2 g3 hn HR2 HF2 HH2
            have e0 : w3.cell? ⟨w.heap.size, 0, none⟩ = some (.string ⟨#[]⟩) := by rw [cell_of_heap HH3.out]; rfl
            have e1 : w3.cell? ⟨w.heap.size, 1, none⟩ = some (.string ⟨#[]⟩) := by rw [cell_of_heap HH3.out]; rfl
            have e2 : w3.cell? ⟨w.heap.size, 2, none⟩ = some (.int .i64 0) := by rw [cell_of_heap HH3.out]; rfl
            have e3 : w3.cell? ⟨w.heap.size, 3, none⟩ = some (.int .i64 0) := by rw [cell_of_heap HH3.out]; rfl
            have z0 : w3.frozen? ⟨w.heap.size, 0, none⟩ = false := frozen_of_heap HH3.out 0
            have z1 : w3.frozen? ⟨w.heap.size, 1, none⟩ = false := frozen_of_heap HH3.out 1
            have z2 : w3.frozen? ⟨w.heap.size, 2, none⟩ = false := frozen_of_heap HH3.out 2
            have z3 : w3.frozen? ⟨w.heap.size, 3, none⟩ = false := frozen_of_heap HH3.out 3
            go_wp2
            have hfr : FrameF (· = w.heap.size) w3 ((((w3.setCell ⟨w.heap.size, 0, none⟩ (.string ⟨nm.toArray⟩)).setCell ⟨w.heap.size, 1, none⟩ (.string ⟨tx.toArray⟩)).setCell ⟨w.heap.size, 2, none⟩ (.int .i64 wt)).setCell ⟨w.heap.size, 3, none⟩ (.int .i64 tg)) :=
              (((frame_set (F := (· = w.heap.size)) rfl).then (frame_set rfl)).then (frame_set rfl)).then (frame_set rfl)
            refine bodyPost_ret (v := entV ⟨nm, false, tx, wt, tg⟩) (by simp [results, Tryz.results266, go_sem, e0, e1, e2, e3, entV]) rfl ⟨HF3.out.trans hfr (fun i hi hg => by omega), ?_⟩
            rw [HX4.out]
            exact ⟨rfl, HR3.out.far HH3.out (by decide) (by decide) hfr⟩
        · have HX3 : Hid ((some (tx, r)).bind (fun x : Wd × Wd => if queryB x.1 = true ∧ x.1 ≠ [] then (rdWeight x.2).bind fun y => if y.1 ≤ 1000000 then (rdNum y.2).bind fun z => some ((⟨nm, false, x.1, y.1, z.1⟩ : Ent), z.2) else none else none) = none) := by show _ = _; rw [HX2.out, if_neg hmw]
          have hmi : decide ((wt : Int) ≤ 1000000) = false := decide_eq_false (by omega)
          go_wp2_with fail
          refine (must_no _).mono ?_
          rintro e w' ⟨rfl, rfl⟩
          exact ⟨rfl, HF2.out, by rw [HX3.out]⟩
    · rw [show decide (queryB (⟨tx.toArray⟩ : ByteArray).data.toList = true ∧ (⟨tx.toArray⟩ : ByteArray).data.toList ≠ []) = false from decide_eq_false hq]
      have HX1 : Hid ((some (tx, r)).bind (fun x : Wd × Wd => if queryB x.1 = true ∧ x.1 ≠ [] then (rdWeight x.2).bind fun y => if y.1 ≤ 1000000 then (rdNum y.2).bind fun z => some ((⟨nm, false, x.1, y.1, z.1⟩ : Ent), z.2) else none else none) = none) := by show _ = _; rw [HX.out, if_neg hq]
      clear HX hq
      go_wp2_with fail
      refine (must_no _).mono ?_
      rintro e w' ⟨rfl, rfl⟩
      exact ⟨rfl, HF1.out, by rw [HX1.out]⟩

theorem put_new (told : List Ent) (e : Ent) (f : Ent → Wd × Value) (hf : ∀ e, (f e).1 = e.name) (h : e.name ∉ told.map Ent.name) : putP (told.map f) e.name (f e).2 = (told ++ [e]).map f := by
  unfold putP
  rw [List.filter_eq_self.2, List.map_append, List.map_cons, List.map_nil]
  · have : (e.name, (f e).2) = f e := by rw [← hf e]
    rw [this]
  · intro p hp
    obtain ⟨x, hx, rfl⟩ := List.mem_map.1 hp
    simp only [bne_iff_ne, ne_eq, hf]
    intro e2
    exact h (List.mem_map.2 ⟨x, hx, e2⟩)

theorem FrameF.of_grown {w w' : World} {B : Nat} (h : w.grownBy w' (some B)) : FrameF (· = B) w w' := ⟨h.os, h.tape, h.output, h.size, fun k hk hn => h.block k hk (fun e => hn (by simpa using e))⟩

set_option maxHeartbeats 1000000 in
set_option maxRecDepth 100000 in
theorem tell_any (Bx Bs : Nat) (told : List Ent) (e : Ent) (at_ : Int) (w : World) (hx : w.heap[Bx]? = some (.cells #[.map (some Bs)] 85 (0, 0))) (hs : SayM w Bs told) (hn : e.name ∉ told.map Ent.name) (hl : told.length < 1099511627776) (hnl : e.name.length ≤ maxLen) :
    Calls Tryz.prog 130 #[.int .i64 at_, .string ⟨e.name.toArray⟩, sayV e, .pointer (some ⟨Bx, 0, none⟩)] w fun en w' => en = .returned (.tuple #[]) ∧ SayM w' Bs (told ++ [e]) ∧ FrameF (· = Bs) w w' := by
  have hxl := heap_lt hx
  have hc : w.cell? ⟨Bx, 0, none⟩ = some (.map (some Bs)) := by rw [cell_of_heap hx]; rfl
  have hput := put_new told e sayP (fun _ => rfl) hn
  obtain ⟨w0, hw0⟩ : ∃ w0, w.alloc (.cells #[.bool e.gone, .string ⟨(inN e).toArray⟩, .string ⟨e.text.toArray⟩, .int .i64 e.weight, .int .i64 e.tags] 111) = w0 := ⟨_, rfl⟩
  have hb0 : Below w.heap.size w w0 := by rw [← hw0]; exact (Below.refl _ _).alloc (Nat.le_refl _) _
  have hs0 : SayM w0 Bs told := MapL.below hs hb0
  have hh0 : w0.heap[w.heap.size]? = some (.cells #[.bool e.gone, .string ⟨(inN e).toArray⟩, .string ⟨e.text.toArray⟩, .int .i64 e.weight, .int .i64 e.tags] 111 (0, 0)) := by rw [← hw0]; exact heap_alloc_new w _
  have d0 : w0.cell? ⟨w.heap.size, 0, none⟩ = some (.bool e.gone) := by rw [cell_of_heap hh0]; rfl
  have d1 : w0.cell? ⟨w.heap.size, 1, none⟩ = some (.string ⟨(inN e).toArray⟩) := by rw [cell_of_heap hh0]; rfl
  have d2 : w0.cell? ⟨w.heap.size, 2, none⟩ = some (.string ⟨e.text.toArray⟩) := by rw [cell_of_heap hh0]; rfl
  have d3 : w0.cell? ⟨w.heap.size, 3, none⟩ = some (.int .i64 e.weight) := by rw [cell_of_heap hh0]; rfl
  have d4 : w0.cell? ⟨w.heap.size, 4, none⟩ = some (.int .i64 e.tags) := by rw [cell_of_heap hh0]; rfl
  have hc0 := cell_later hb0 hc
  have HB0 : Hid (Below w.heap.size w w0) := hb0
  have HS0 : Hid (SayM w0 Bs told) := hs0
  have HP : Hid (putP (told.map sayP) e.name (sayP e).2 = (told ++ [e]).map sayP) := hput
  clear hx hs hn hh0 hc hb0 hs0 hput
  unfold sayV
  go_enter Tryz.func130, Tryz.ntmps130
  go_wp2_with (first | (at_mapUpdate; refine wpList_putL _ rfl _ _ _ 85 rfl 111 Tryz.underlying9 Tryz.underlying85 rfl HS0.out (by rw [List.length_map]; unfold maxLen; omega) e.name hnl rfl (sayV e) rfl ?_; intro w1 hm1 hg1 hs1))
  go_end0
  refine ⟨rfl, ?_, ?_⟩
  · unfold SayM
    rw [← HP.out]
    exact hm1
  · exact (FrameF.of_below HB0.out).then (FrameF.of_grown hg1)

set_option maxHeartbeats 1000000 in
set_option maxRecDepth 100000 in
theorem say_any (Rb Mk Bx Bs : Nat) (S : ByteArray) (rest : Wd) (told : List Ent) (e : Ent) (at_ : Int) (w : World) (h : RS w Rb Mk Bx Bs S rest told) (hS : S.size ≤ 1099511627775) (hn : e.name ∉ told.map Ent.name) (hnl : e.name.length ≤ maxLen) (hfew : told.length + 1 + rest.length ≤ S.size) :
    Calls Tryz.prog 235 #[.pointer (some ⟨Rb, 0, none⟩), .int .i64 at_, .string ⟨e.name.toArray⟩, sayV e] w fun en w' => en = .returned (.tuple #[]) ∧ RS w' Rb Mk Bx Bs S rest (told ++ [e]) ∧ FrameF (GR Rb Mk Bs) w w' := by
  obtain ⟨w0, hw0⟩ : ∃ w0, w.alloc (.cells #[.bool e.gone, .string ⟨(inN e).toArray⟩, .string ⟨e.text.toArray⟩, .int .i64 e.weight, .int .i64 e.tags] 111) = w0 := ⟨_, rfl⟩
  have hb0 : Below w.heap.size w w0 := by rw [← hw0]; exact (Below.refl _ _).alloc (Nat.le_refl _) _
  have hh0 : w0.heap[w.heap.size]? = some (.cells #[.bool e.gone, .string ⟨(inN e).toArray⟩, .string ⟨e.text.toArray⟩, .int .i64 e.weight, .int .i64 e.tags] 111 (0, 0)) := by rw [← hw0]; exact heap_alloc_new w _
  have hR0 := h.below hb0
  obtain ⟨n1, n2, n3, n4, n5⟩ := hR0.ner
  have hne := hR0.ne
  obtain ⟨p, hp1, hp2⟩ := id hR0.rd
  unfold RdAt at hp1
  have c2 : w0.cell? ⟨Rb, 2, none⟩ = some (.map (some Mk)) := by rw [cell_of_heap hp1]; rfl
  have hMs : Mk ≠ w.heap.size := hR0.kn.cells_ne hh0
  have hput := put_new told e knP (fun _ => rfl) hn
  have HR0 : Hid (RS w0 Rb Mk Bx Bs S rest told) := hR0
  have HP1 : Hid (w0.heap[Rb]? = some (.cells #[.string S, .int .i64 p, .map (some Mk), tellV Bx] 216 (0, 0)) ∧ p ≤ S.size ∧ S.data.toList.drop p = rest) := ⟨hp1, hp2⟩
  have HH0 : Hid (w0.heap[w.heap.size]? = some (.cells #[.bool e.gone, .string ⟨(inN e).toArray⟩, .string ⟨e.text.toArray⟩, .int .i64 e.weight, .int .i64 e.tags] 111 (0, 0))) := hh0
  have HB0 : Hid (Below w.heap.size w w0) := hb0
  have HP : Hid (putP (told.map knP) e.name (knP e).2 = (told ++ [e]).map knP) := hput
  have HN : Hid (e.name ∉ told.map Ent.name) := hn
  clear h hb0 hh0 hR0 hp1 hp2 hput hn
  unfold sayV
  go_enter Tryz.func235, Tryz.ntmps235
  go_wp2_with (first | (at_mapUpdate; refine wpList_putL _ rfl _ _ _ 214 rfl 263 Tryz.underlying9 Tryz.underlying214 rfl HR0.out.kn (by rw [List.length_map]; unfold maxLen; omega) e.name hnl rfl (.agg #[]) rfl ?_; intro w1 hm1 hg1 hs1))
  have hf1 := FrameF.of_grown hg1
  have hR1 : w1.heap[Rb]? = some (.cells #[.string S, .int .i64 p, .map (some Mk), tellV Bx] 216 (0, 0)) := by rw [hf1.block Rb (heap_lt HP1.out.1) (fun e => n1 e.symm)]; exact HP1.out.1
  have hh1 : w1.heap[w.heap.size]? = some (.cells #[.bool e.gone, .string ⟨(inN e).toArray⟩, .string ⟨e.text.toArray⟩, .int .i64 e.weight, .int .i64 e.tags] 111 (0, 0)) := by rw [hf1.block _ (heap_lt HH0.out) (fun e => hMs e.symm)]; exact HH0.out
  have hx1 : w1.heap[Bx]? = some (.cells #[.map (some Bs)] 85 (0, 0)) := by rw [hf1.block _ (heap_lt HR0.out.bx) (fun e => n4 e.symm)]; exact HR0.out.bx
  have hd1 : SayM w1 Bs told := MapL.stay HR0.out.sd (hf1.block _ (MapL.lt HR0.out.sd) (fun e => hne e.symm))
  have c3 : w1.cell? ⟨Rb, 3, none⟩ = some (.func (.func 130) #[] #[.pointer (some ⟨Bx, 0, none⟩)]) := by rw [cell_of_heap hR1]; rfl
  have d0 : w1.cell? ⟨w.heap.size, 0, none⟩ = some (.bool e.gone) := by rw [cell_of_heap hh1]; rfl
  have d1 : w1.cell? ⟨w.heap.size, 1, none⟩ = some (.string ⟨(inN e).toArray⟩) := by rw [cell_of_heap hh1]; rfl
  have d2 : w1.cell? ⟨w.heap.size, 2, none⟩ = some (.string ⟨e.text.toArray⟩) := by rw [cell_of_heap hh1]; rfl
  have d3 : w1.cell? ⟨w.heap.size, 3, none⟩ = some (.int .i64 e.weight) := by rw [cell_of_heap hh1]; rfl
  have d4 : w1.cell? ⟨w.heap.size, 4, none⟩ = some (.int .i64 e.tags) := by rw [cell_of_heap hh1]; rfl
  have HT : Hid (∀ w2 : World, w2.heap = w1.heap → w2.os = w1.os → w2.tape = w1.tape → w2.output = w1.output → Calls Tryz.prog 130 #[.int .i64 at_, .string ⟨e.name.toArray⟩, sayV e, .pointer (some ⟨Bx, 0, none⟩)] w2 fun en w' => en = .returned (.tuple #[]) ∧ SayM w' Bs (told ++ [e]) ∧ FrameF (· = Bs) w1 w') := by
    intro w2 k1 k2 k3 k4
    refine (tell_any Bx Bs told e at_ w2 (by rw [k1]; exact hx1) (MapL.stay hd1 (by rw [k1])) HN.out (by omega) hnl).mono ?_
    rintro en w' ⟨q1, q2, q3⟩
    exact ⟨q1, q2, ⟨q3.os.trans k2, q3.tape.trans k3, q3.output.trans k4, by have := q3.size; rw [k1] at this; exact this, fun k hk hn => by rw [q3.block k (by rw [k1]; exact hk) hn, k1]⟩⟩
  have hS0 : w1.drew.cell? ⟨Rb, 3, none⟩ = some (.func (.func 130) #[] #[.pointer (some ⟨Bx, 0, none⟩)]) ∧ w1.drew.cell? ⟨w.heap.size, 0, none⟩ = some (.bool e.gone) ∧ w1.drew.cell? ⟨w.heap.size, 1, none⟩ = some (.string ⟨(inN e).toArray⟩) ∧ w1.drew.cell? ⟨w.heap.size, 2, none⟩ = some (.string ⟨e.text.toArray⟩) ∧ w1.drew.cell? ⟨w.heap.size, 3, none⟩ = some (.int .i64 e.weight) ∧ w1.drew.cell? ⟨w.heap.size, 4, none⟩ = some (.int .i64 e.tags) := ⟨c3, d0, d1, d2, d3, d4⟩
  clear c3 d0 d1 d2 d3 d4
  refine wp_region_held (S := fun w' => w'.cell? ⟨Rb, 3, none⟩ = some (.func (.func 130) #[] #[.pointer (some ⟨Bx, 0, none⟩)]) ∧ w'.cell? ⟨w.heap.size, 0, none⟩ = some (.bool e.gone) ∧ w'.cell? ⟨w.heap.size, 1, none⟩ = some (.string ⟨(inN e).toArray⟩) ∧ w'.cell? ⟨w.heap.size, 2, none⟩ = some (.string ⟨e.text.toArray⟩) ∧ w'.cell? ⟨w.heap.size, 3, none⟩ = some (.int .i64 e.weight) ∧ w'.cell? ⟨w.heap.size, 4, none⟩ = some (.int .i64 e.tags)) (by kernel_rfl) ?_
  refine wpAnyH_take (i := 0) (v := ?_) rfl (by kernel_rfl) (by kernel_rfl) (by kernel_rfl) (fun _ _ _ h => h) (Or.inl ⟨by rfl, ?_⟩) hS0 ?_
  rotate_left
  · rintro w' ⟨k0, k1, k2, k3, k4, k5⟩; go_simp; first | done | with_reducible rfl
  refine wpAnyH_take (i := 1) (v := ?_) rfl (by kernel_rfl) (by kernel_rfl) (by kernel_rfl) (fun _ _ _ h => h) (Or.inl ⟨by rfl, ?_⟩) hS0 ?_
  rotate_left
  · rintro w' ⟨k0, k1, k2, k3, k4, k5⟩; go_simp; first | done | with_reducible rfl
  refine wpAnyH_take (i := 2) (v := ?_) rfl (by kernel_rfl) (by kernel_rfl) (by kernel_rfl) (fun _ _ _ h => h) (Or.inl ⟨by rfl, ?_⟩) hS0 ?_
  rotate_left
  · rintro w' ⟨k0, k1, k2, k3, k4, k5⟩; go_simp; first | done | with_reducible rfl
  refine wpAnyH_take (i := 3) (v := ?_) rfl (by kernel_rfl) (by kernel_rfl) (by kernel_rfl) (fun _ _ _ h => h) (Or.inl ⟨by rfl, ?_⟩) hS0 ?_
  rotate_left
  · rintro w' ⟨k0, k1, k2, k3, k4, k5⟩; go_simp; first | done | with_reducible rfl
  refine wpAnyH_take (i := 4) (v := ?_) rfl (by kernel_rfl) (by kernel_rfl) (by kernel_rfl) (fun _ _ _ h => h) (Or.inl ⟨by rfl, ?_⟩) hS0 ?_
  rotate_left
  · rintro w' ⟨k0, k1, k2, k3, k4, k5⟩; go_simp; first | done | with_reducible rfl
  refine wpAnyH_take (i := 5) (v := ?_) rfl (by kernel_rfl) (by kernel_rfl) (by kernel_rfl) (fun _ _ _ h => h) (Or.inl ⟨by rfl, ?_⟩) hS0 ?_
  rotate_left
  · rintro w' ⟨k0, k1, k2, k3, k4, k5⟩; go_simp; first | done | with_reducible rfl
  refine wpAnyH_take (i := 6) (v := ?_) rfl (by kernel_rfl) (by kernel_rfl) (by kernel_rfl) (fun _ _ _ h => h) (Or.inl ⟨by rfl, ?_⟩) hS0 ?_
  rotate_left
  · rintro w' ⟨k0, k1, k2, k3, k4, k5⟩; go_simp; first | done | with_reducible rfl
  refine wpAnyH_all (rs := [7]) (by kernel_rfl) (by simp) ?_
  intro i hi
  simp only [List.mem_singleton] at hi
  subst hi
  refine wpOp_step (by rfl) fun K' hK' => ?_
  rw [if_pos (by rfl)]
  unfold Oper.wp
  go_simp
  refine (HT.out w1.drew rfl rfl rfl rfl).mono ?_
  rintro en w2 ⟨rfl, q2, q3⟩
  have hBh : Bs ≠ w.heap.size := MapL.cells_ne hd1 hh1
  have hR2 : w2.heap[Rb]? = some (.cells #[.string S, .int .i64 p, .map (some Mk), tellV Bx] 216 (0, 0)) := by rw [q3.block Rb (heap_lt hR1) (fun e => n2 e.symm)]; exact hR1
  have hh2 : w2.heap[w.heap.size]? = some (.cells #[.bool e.gone, .string ⟨(inN e).toArray⟩, .string ⟨e.text.toArray⟩, .int .i64 e.weight, .int .i64 e.tags] 111 (0, 0)) := by rw [q3.block _ (heap_lt hh1) (fun e => hBh e.symm)]; exact hh1
  have hx2 : w2.heap[Bx]? = some (.cells #[.map (some Bs)] 85 (0, 0)) := by rw [q3.block _ (heap_lt hx1) (fun e => n5 e.symm)]; exact hx1
  refine hK' _ _ ⟨⟨by rw [cell_of_heap hR2]; rfl, by rw [cell_of_heap hh2]; rfl, by rw [cell_of_heap hh2]; rfl, by rw [cell_of_heap hh2]; rfl, by rw [cell_of_heap hh2]; rfl, by rw [cell_of_heap hh2]; rfl⟩, wpAnyH_done (by kernel_rfl) ?_ _⟩
  go_wp2
  go_end0
  refine ⟨rfl, ⟨⟨p, hR2, HP1.out.2⟩, ?_, hx2, q2, by simp; omega, hne⟩, ?_⟩
  · rw [← HP.out]
    exact MapL.stay hm1 (q3.block _ (MapL.lt hm1) hne)
  · exact ((FrameF.of_below HB0.out).then (hf1.mono (fun _ hk => Or.inr (Or.inl hk)))).then (q3.mono (fun _ hk => Or.inr (Or.inr hk)))

end Go.Proofs.YtocbogeoffeolaaGreatDoor

namespace Go.Proofs.YtocbogeoffeolaaGreatDoor
open Go.RowKit

def Part (f : Nat) (path : Wd) (x : UInt8 × List Ent) : Wd := pieceL ((stem x.2).drop path.length) ++ bodyC f (stem x.2) (sortN x.2)
def NodeA (node : Wd → List Wd → Wd → Option (Nat × List Ent × Wd)) (f : Nat) : Prop :=
  ∀ (path : Wd) (ks : List Wd) (bs : Wd) (g : Nat) (es : List Ent) (rest : Wd), node path ks bs = some (g, es, rest) →
    (∀ e ∈ es, okE e ∧ path <+: keyE e ∧ e.name ∉ ks) ∧ (es.map Ent.name).Nodup ∧ (g : Int) = maxW es ∧ (path ≠ [] → es ≠ [] ∧ stem es = path) ∧ bs = bodyC f path (sortN es) ++ rest
def Heads (hs : List (UInt8 × List Ent)) : Prop := hs.Pairwise fun a b => a.1.toNat < b.1.toNat
def Under (path : Wd) (hs : List (UInt8 × List Ent)) : Prop := ∀ x ∈ hs, x.2 ≠ [] ∧ ∀ e ∈ x.2, path ++ [x.1] <+: keyE e
def allOf (hs : List (UInt8 × List Ent)) : List Ent := hs.flatMap fun x => x.2

theorem nodup_append {l m : List Ent} (h1 : (l.map Ent.name).Nodup) (h2 : (m.map Ent.name).Nodup) (h3 : ∀ e ∈ m, e.name ∉ l.map Ent.name) : ((l ++ m).map Ent.name).Nodup := by
  rw [List.map_append, List.nodup_append]
  refine ⟨h1, h2, fun a ha b hb => ?_⟩
  obtain ⟨e, he, rfl⟩ := List.mem_map.1 hb
  intro h; subst h
  exact h3 e he ha

theorem rdKids_some {node : Wd → List Wd → Wd → Option (Nat × List Ent × Wd)} {f : Nat} (hN : NodeA node f) : ∀ (n : Nat) (path : Wd) (ks : List Wd) (last : Int) (bs : Wd) (g : Nat) (es : List Ent) (rest : Wd),
    rdKids node n path ks last bs = some (g, es, rest) → ∃ hs : List (UInt8 × List Ent), hs.length = n ∧ es = allOf hs ∧ Heads hs ∧ Under path hs ∧ (∀ x ∈ hs, last < (x.1.toNat : Int)) ∧ bs = hs.flatMap (Part f path) ++ rest ∧
      (∀ e ∈ es, okE e ∧ e.name ∉ ks) ∧ (es.map Ent.name).Nodup ∧ (g : Int) = maxW es := by
  intro n
  induction n with
  | zero =>
    intro path ks last bs g es rest h
    simp only [rdKids, Option.some.injEq, Prod.mk.injEq] at h
    obtain ⟨rfl, rfl, rfl⟩ := h
    exact ⟨[], rfl, rfl, List.Pairwise.nil, fun _ h => by simp at h, fun _ h => by simp at h, rfl, fun _ h => by simp at h, by simp, rfl⟩
  | succ n ih =>
    intro path ks last bs g es rest h
    unfold rdKids at h
    obtain ⟨⟨t, r⟩, hx, h⟩ := Option.bind_eq_some_iff.1 h
    split at h
    · rename_i hc
      obtain ⟨⟨gy, ey, ry⟩, hy, h⟩ := Option.bind_eq_some_iff.1 h
      obtain ⟨⟨gz, ez, rz⟩, hz, h⟩ := Option.bind_eq_some_iff.1 h
      simp only [Option.some.injEq, Prod.mk.injEq] at h hc
      obtain ⟨rfl, rfl, rfl⟩ := h
      obtain ⟨a1, a2, a3, a4, a5⟩ := hN _ _ _ _ _ _ hy
      obtain ⟨hs, b1, b2, b3, b4, b5, b6, b7, b8, b9⟩ := ih _ _ _ _ _ _ _ hz
      obtain ⟨ht, hlast⟩ := hc
      cases t with
      | nil => exact absurd rfl ht
      | cons c t =>
        simp only [List.getD_cons_zero] at hlast b5
        have hne : path ++ c :: t ≠ [] := by simp
        obtain ⟨a6, a7⟩ := a4 hne
        have hd : (stem ey).drop path.length = c :: t := by rw [a7]; simp
        refine ⟨(c, ey) :: hs, by simp [b1], by rw [b2]; rfl, ?_, ?_, ?_, ?_, ?_, ?_, ?_⟩
        · exact List.pairwise_cons.2 ⟨fun x hx => by have := b5 x hx; show c.toNat < x.1.toNat; omega, b3⟩
        · intro x hx
          simp only [List.mem_cons] at hx
          rcases hx with rfl | hx
          · exact ⟨a6, fun e he => List.IsPrefix.trans (by exact ⟨t, by simp⟩) (a1 e he).2.1⟩
          · exact b4 x hx
        · intro x hx
          simp only [List.mem_cons] at hx
          rcases hx with rfl | hx
          · exact hlast
          · have := b5 x hx; omega
        · have a5' : r = bodyC f (path ++ c :: t) (sortN ey) ++ ry := a5
          have b6' : ry = hs.flatMap (Part f path) ++ rz := b6
          rw [(rdText_some hx).1, a5', b6', List.flatMap_cons]
          unfold Part
          rw [hd, a7]
          simp
        · intro e he
          rw [List.mem_append] at he
          rcases he with he | he
          · exact ⟨(a1 e he).1, (a1 e he).2.2⟩
          · exact ⟨(b7 e he).1, fun hk => (b7 e he).2 (by simp [hk])⟩
        · exact nodup_append a2 b8 (fun e he hm => (b7 e he).2 (List.mem_append_right _ hm))
        · rw [maxW_append, ← a3, ← b9]; omega
    · simp at h

/-- The group of a byte. -/
theorem grp_none {l : List Ent} {path : Wd} {c : UInt8} (h : ∀ e ∈ l, ¬ path ++ [c] <+: keyE e) : grp l path c = [] := by
  unfold grp
  rw [List.filter_eq_nil_iff]
  intro e he hb
  exact h e he ((begB_iff _ _).1 hb)
theorem grp_all {l : List Ent} {path : Wd} {c : UInt8} (h : ∀ e ∈ l, path ++ [c] <+: keyE e) : grp l path c = l := by
  unfold grp
  rw [List.filter_eq_self]
  intro e he
  exact (begB_iff _ _).2 (h e he)
theorem grp_append (l m : List Ent) (path : Wd) (c : UInt8) : grp (l ++ m) path c = grp l path c ++ grp m path c := by unfold grp; rw [List.filter_append]
theorem pre_byte {path s : Wd} {c d : UInt8} (h1 : path ++ [c] <+: s) (h2 : path ++ [d] <+: s) : c = d := by
  rw [← ((snoc_pre _ _ _).1 h1).2.2, ((snoc_pre _ _ _).1 h2).2.2]
theorem grp_no (path : Wd) : ∀ (hs : List (UInt8 × List Ent)), Under path hs → ∀ c, (∀ x ∈ hs, x.1 ≠ c) → grp (allOf hs) path c = [] := by
  intro hs hU c hc
  refine grp_none fun e he hp => ?_
  obtain ⟨x, hx, hm⟩ := List.mem_flatMap.1 he
  exact hc x hx (pre_byte ((hU x hx).2 e hm) hp)
theorem grp_hs (path : Wd) : ∀ (hs : List (UInt8 × List Ent)), Heads hs → Under path hs → ∀ x ∈ hs, grp (allOf hs) path x.1 = x.2 := by
  intro hs
  induction hs with
  | nil => intro _ _ x hx; simp at hx
  | cons y hs ih =>
    intro hH hU x hx
    have hH2 := List.pairwise_cons.1 hH
    have hU2 : Under path hs := fun z hz => hU z (by simp [hz])
    rw [show allOf (y :: hs) = y.2 ++ allOf hs from rfl, grp_append]
    simp only [List.mem_cons] at hx
    rcases hx with rfl | hx
    · rw [grp_all (hU x (by simp)).2, grp_no path hs hU2 x.1 (fun z hz e => by have := hH2.1 z hz; rw [e] at this; omega), List.append_nil]
    · rw [grp_none (l := y.2), ih hH2.2 hU2 x hx, List.nil_append]
      intro e he hp
      have := pre_byte ((hU y (by simp)).2 e he) hp
      have h2 := hH2.1 x hx
      rw [this] at h2; omega
theorem bytes_rising : bytes256.Pairwise fun a b => a.toNat < b.toNat := by
  rw [List.pairwise_iff_getElem]
  intro i j hi hj hij
  rw [bytes256_get, bytes256_get]
  rw [bytes256_len] at hi hj
  simp
  omega
theorem bytes_mem (c : UInt8) : c ∈ bytes256 := by
  unfold bytes256
  exact List.mem_map.2 ⟨c.toNat, List.mem_range.2 c.toNat_lt, by simp⟩
theorem rising_nodup {cs : List UInt8} (h : cs.Pairwise fun a b => a.toNat < b.toNat) : cs.Nodup := h.imp (fun h e => by rw [e] at h; omega)
theorem bytes_filter (p : UInt8 → Bool) (cs : List UInt8) (h : cs.Pairwise fun a b => a.toNat < b.toNat) (hp : ∀ c, p c = true ↔ c ∈ cs) : bytes256.filter p = cs := by
  have h1 : (bytes256.filter p).Pairwise fun a b => a.toNat < b.toNat := bytes_rising.filter p
  refine List.Perm.eq_of_pairwise (le := fun a b => a.toNat < b.toNat) (fun a b _ _ h1 h2 => by omega) h1 h ?_
  rw [List.perm_ext_iff_of_nodup (rising_nodup h1) (rising_nodup h)]
  intro c
  rw [List.mem_filter, ← hp c]
  exact ⟨fun h => h.2, fun h => ⟨bytes_mem c, h⟩⟩
theorem own_none {l : List Ent} {path : Wd} (h : ∀ e ∈ l, keyE e ≠ path) : ownP l path = [] := by
  unfold ownP
  rw [List.filter_eq_nil_iff]
  intro e he hb
  exact h e he (beq_iff_eq.1 hb)
theorem own_all {l : List Ent} {path : Wd} (h : ∀ e ∈ l, keyE e = path) : ownP l path = l := by
  unfold ownP
  rw [List.filter_eq_self]
  intro e he
  exact beq_iff_eq.2 (h e he)
theorem under_ne {path : Wd} {hs : List (UInt8 × List Ent)} (h : Under path hs) : ∀ e ∈ allOf hs, keyE e ≠ path := by
  intro e he hk
  obtain ⟨x, hx, hm⟩ := List.mem_flatMap.1 he
  have := ((snoc_pre _ _ _).1 ((h x hx).2 e hm)).2.1
  rw [hk] at this; omega
theorem own_not {path : Wd} {l : List Ent} (h : ∀ e ∈ l, keyE e = path) (c : UInt8) : grp l path c = [] :=
  grp_none fun e he hp => by have := ((snoc_pre _ _ _).1 hp).2.1; rw [h e he] at this; omega
/-- A node of its own entries and of groups. -/
theorem body_parts (f : Nat) (path : Wd) (own : List Ent) (hs : List (UInt8 × List Ent)) (h1 : Rising own) (h2 : ∀ e ∈ own, keyE e = path) (h3 : Heads hs) (h4 : Under path hs) :
    bodyC (f + 1) path (sortN (own ++ allOf hs)) = threeL (maxW (own ++ allOf hs)) ++ (u8 own.length :: (own.flatMap entB ++ (u8 hs.length :: hs.flatMap (Part f path)))) := by
  have e1 : ownP (sortN (own ++ allOf hs)) path = own := by
    rw [ownP, sortN_filter, List.filter_append]
    have a := own_all h2
    have b := own_none (under_ne h4)
    unfold ownP at a b
    rw [a, b, List.append_nil, sortN_rising own h1]
  have e2 : ∀ c, grp (sortN (own ++ allOf hs)) path c = sortN (grp (allOf hs) path c) := by
    intro c
    unfold grp
    rw [sortN_filter, List.filter_append]
    have a := own_not h2 c
    unfold grp at a
    rw [a, List.nil_append]
  have e3 : heads (sortN (own ++ allOf hs)) path = hs.map (·.1) := by
    unfold heads
    refine bytes_filter _ _ (List.pairwise_map.2 h3) (fun c => ?_)
    rw [e2, List.mem_map]
    constructor
    · intro h
      refine Classical.byContradiction fun hno => ?_
      rw [grp_no path hs h4 c (fun x hx e => hno ⟨x, hx, e⟩)] at h
      simp [sortN] at h
    · rintro ⟨x, hx, rfl⟩
      rw [grp_hs path hs h3 h4 x hx]
      have := (h4 x hx).1
      have hl := sortN_len x.2
      cases hq : sortN x.2 with
      | nil => rw [hq] at hl; cases h : x.2 with
        | nil => exact absurd h this
        | cons a b => rw [h] at hl; simp at hl
      | cons a b => rfl
  rw [bodyC, e1, e3, maxW_perm (sortN_perm _), List.length_map, List.flatMap_map]
  congr 4
  refine flatMap_same fun x hx => ?_
  rw [e2, grp_hs path hs h3 h4 x hx]
  unfold Part
  have : stem (sortN x.2) = stem x.2 := lcpL_congr fun s => by
    rw [List.mem_map, List.mem_map]
    exact ⟨fun ⟨e, h, k⟩ => ⟨e, sortN_mem.1 h, k⟩, fun ⟨e, h, k⟩ => ⟨e, sortN_mem.2 h, k⟩⟩
  rw [this]

/-- Two bytes ahead, or a text of its own: no longer beginning. -/
theorem stem_path {path : Wd} {es : List Ent} (h0 : ∀ e ∈ es, path <+: keyE e) (h : (∃ e ∈ es, keyE e = path) ∨ ∃ a ∈ es, ∃ b ∈ es, ∃ c d : UInt8, c ≠ d ∧ path ++ [c] <+: keyE a ∧ path ++ [d] <+: keyE b) : es ≠ [] ∧ stem es = path := by
  have hne : es ≠ [] := by
    rcases h with ⟨e, he, _⟩ | ⟨e, he, _⟩ <;> exact List.ne_nil_of_mem he
  refine ⟨hne, lcpL_eq (by simpa using hne) ⟨fun s hs => ?_, fun r hr => ?_⟩⟩
  · obtain ⟨e, he, rfl⟩ := List.mem_map.1 hs
    exact h0 e he
  · have hr' : ∀ e ∈ es, r <+: keyE e := fun e he => hr _ (List.mem_map.2 ⟨e, he, rfl⟩)
    rcases h with ⟨e, he, hk⟩ | ⟨a, ha, b, hb, c, d, hcd, h1, h2⟩
    · rw [← hk]; exact hr' e he
    · rcases Nat.lt_or_ge path.length r.length with hl | hl
      · have g1 := ((snoc_pre _ _ _).1 h1).2.2
        have g2 := ((snoc_pre _ _ _).1 h2).2.2
        rw [pre_getD (hr' a ha) _ hl] at g1
        rw [pre_getD (hr' b hb) _ hl] at g2
        exact absurd (g1.symm.trans g2) hcd
      · exact List.prefix_of_prefix_length_le (hr' a ha) (h0 a ha) hl
theorem rdNode_some : ∀ f : Nat, NodeA (rdNode f) f := by
  intro f
  induction f with
  | zero => intro path ks bs g es rest h; simp [rdNode] at h
  | succ f ih =>
    intro path ks bs g es rest h
    unfold rdNode at h
    split at h
    · obtain ⟨⟨a, ra⟩, ha, h⟩ := Option.bind_eq_some_iff.1 h
      obtain ⟨⟨b, rb⟩, hb, h⟩ := Option.bind_eq_some_iff.1 h
      obtain ⟨⟨own, rc⟩, hc, h⟩ := Option.bind_eq_some_iff.1 h
      obtain ⟨⟨d, rd⟩, hd, h⟩ := Option.bind_eq_some_iff.1 h
      obtain ⟨⟨gk, ek, re⟩, he, h⟩ := Option.bind_eq_some_iff.1 h
      split at h
      · rename_i hck
        simp only [Option.some.injEq, Prod.mk.injEq] at h hck hb hc hd he
        obtain ⟨rfl, rfl, rfl⟩ := h
        obtain ⟨o1, o2, o3, o4⟩ := rdEnts_some _ _ _ _ _ _ _ hc
        obtain ⟨hs, k1, k2, k3, k4, _, k5, k6, k7, k8⟩ := rdKids_some ih _ _ _ _ _ _ _ _ he
        have hpre : ∀ e ∈ own ++ ek, path <+: keyE e := by
          intro e hm
          rw [List.mem_append] at hm
          rcases hm with hm | hm
          · rw [(o3 e hm).2.1]; exact List.prefix_refl _
          · rw [k2] at hm
            obtain ⟨x, hx, hm⟩ := List.mem_flatMap.1 hm
            exact List.IsPrefix.trans (List.prefix_append _ _) ((k4 x hx).2 e hm)
        refine ⟨fun e hm => ⟨?_, hpre e hm, ?_⟩, ?_, ?_, ?_, ?_⟩
        · rw [List.mem_append] at hm
          rcases hm with hm | hm
          · exact (o3 e hm).1
          · exact (k6 e hm).1
        · rw [List.mem_append] at hm
          rcases hm with hm | hm
          · exact (o3 e hm).2.2.1
          · exact fun hk => (k6 e hm).2 (by simp [hk])
        · exact nodup_append o4.nodup k7 (fun e he hm => (k6 e he).2 (List.mem_append_right _ hm))
        · rw [maxW_append, hck.1, k8]
        · intro hp
          refine stem_path hpre ?_
          rcases hck.2 with h | h | h
          · exact absurd h hp
          · cases own with
            | nil => simp at o1; omega
            | cons e own => exact Or.inl ⟨e, by simp, (o3 e (by simp)).2.1⟩
          · match hs, k1 with
            | [], k1 => simp at k1; omega
            | [_], k1 => simp at k1; omega
            | x :: y :: hs', k1 =>
              have hx := k4 x (by simp)
              have hy := k4 y (by simp)
              have hxy := (List.pairwise_cons.1 k3).1 y (by simp)
              obtain ⟨e1, he1⟩ := List.exists_mem_of_ne_nil _ hx.1
              obtain ⟨e2, he2⟩ := List.exists_mem_of_ne_nil _ hy.1
              refine Or.inr ⟨e1, ?_, e2, ?_, x.1, y.1, fun h => by rw [h] at hxy; omega, hx.2 e1 he1, hy.2 e2 he2⟩
              · rw [k2]; simp [allOf, he1]
              · rw [k2]; simp [allOf, he2]
        · have b1 := (rdWeight_some ha).1
          have b2 : ra = u8 b :: rb := (rdNum_some hb).1
          have b3 : rb = own.flatMap entB ++ rc := o2
          have b4 : rc = u8 d :: rd := (rdNum_some hd).1
          have b5 : rd = hs.flatMap (Part f path) ++ re := k5
          have b6 : (a : Int) = maxW (own ++ allOf hs) := by rw [maxW_append, hck.1, k8, k2]
          rw [k2, body_parts f path own hs o4 (fun e he => (o3 e he).2.1) k3 k4, b1, b2, b3, b4, b5, ← b6, o1, k1]
          simp
      · simp at h
    · simp at h

theorem rdGone_some : ∀ (n : Nat) (ks : List Wd) (last bs : Wd) (es : List Ent) (rest : Wd), rdGone n ks last bs = some (es, rest) →
    es.length = n ∧ bs = es.flatMap (fun e => pieceL e.name) ++ rest ∧ (∀ e ∈ es, e = ⟨e.name, true, [], 0, 0⟩ ∧ nameB e.name = true ∧ e.name ∉ ks ∧ Op.bytesLess last e.name = true) ∧ Rising es := by
  intro n
  induction n with
  | zero =>
    intro ks last bs es rest h
    simp only [rdGone, Option.some.injEq, Prod.mk.injEq] at h
    obtain ⟨rfl, rfl⟩ := h
    exact ⟨rfl, rfl, fun _ h => by simp at h, List.Pairwise.nil⟩
  | succ n ih =>
    intro ks last bs es rest h
    unfold rdGone at h
    obtain ⟨x, hx, h⟩ := Option.bind_eq_some_iff.1 h
    obtain ⟨z, hz, h⟩ := Option.bind_eq_some_iff.1 h
    simp only [Option.some.injEq, Prod.mk.injEq] at h
    obtain ⟨rfl, rfl⟩ := h
    obtain ⟨h1, h2, h3, h4⟩ := ih _ _ _ _ _ hz
    have hn := rdName_some hx
    refine ⟨by simp [h1], ?_, ?_, ?_⟩
    · rw [hn.1, h2, List.flatMap_cons]; simp
    · intro e hm
      simp only [List.mem_cons] at hm
      rcases hm with rfl | hm
      · exact ⟨rfl, hn.2.1, hn.2.2.2, hn.2.2.1⟩
      · obtain ⟨g1, g2, g3, g4⟩ := h3 e hm
        exact ⟨g1, g2, fun hc => g3 (by simp [hc]), bl_trans _ _ _ hn.2.2.1 g4⟩
    · exact List.pairwise_cons.2 ⟨fun e hm => (h3 e hm).2.2.2, h4⟩

/-- A segment as it is written: of a list of entries and of gone names. -/
def packC (l : List Ent) : Wd := u8 ((sortN l).filter fun e => e.gone).length :: (((sortN l).filter fun e => e.gone).flatMap (fun e => pieceL e.name) ++ (pieceL [] ++ bodyC 26 [] ((sortN l).filter fun e => !e.gone)))
/-- What a segment may say of a name. -/
def okG (e : Ent) : Prop := okE e ∨ (e = ⟨e.name, true, [], 0, 0⟩ ∧ nameB e.name = true)
structure OkSeg (l : List Ent) : Prop where
  each : ∀ e ∈ l, okG e
  nodup : (l.map Ent.name).Nodup
  some : l ≠ []
  gone : (l.filter fun e => e.gone).length ≤ 100
  there : (l.filter fun e => !e.gone).length ≤ 30
theorem rdSeg_some {bs : Wd} {gs es : List Ent} (h : rdSeg bs = some (gs, es)) : OkSeg (gs ++ es) ∧ bs = packC (gs ++ es) ∧ (∀ e ∈ gs, e.gone = true) ∧ ∀ e ∈ es, e.gone = false := by
  unfold rdSeg at h
  obtain ⟨⟨n, ra⟩, ha, h⟩ := Option.bind_eq_some_iff.1 h
  obtain ⟨⟨gs', rb⟩, hb, h⟩ := Option.bind_eq_some_iff.1 h
  obtain ⟨⟨t, rc⟩, hc, h⟩ := Option.bind_eq_some_iff.1 h
  split at h
  · rename_i ht
    obtain ⟨⟨g, es', rd⟩, hd, h⟩ := Option.bind_eq_some_iff.1 h
    split at h
    · rename_i hck
      simp only [Option.some.injEq, Prod.mk.injEq] at h hck ht hb hc hd
      obtain ⟨rfl, rfl⟩ := h
      subst ht
      obtain ⟨g1, g2, g3, g4⟩ := rdGone_some _ _ _ _ _ _ hb
      obtain ⟨n1, n2, n3, n4, n5⟩ := rdNode_some 26 _ _ _ _ _ _ hd
      have hg : ∀ e ∈ gs', e.gone = true := fun e he => by rw [(g3 e he).1]
      have he : ∀ e ∈ es', e.gone = false := fun e he => (n1 e he).1.1
      have f1 : gs'.filter (fun e => e.gone) = gs' := List.filter_eq_self.2 hg
      have f2 : es'.filter (fun e => e.gone) = [] := List.filter_eq_nil_iff.2 (fun e h => by rw [he e h]; simp)
      have f3 : gs'.filter (fun e => !e.gone) = [] := List.filter_eq_nil_iff.2 (fun e h => by rw [hg e h]; simp)
      have f4 : es'.filter (fun e => !e.gone) = es' := List.filter_eq_self.2 (fun e h => by rw [he e h]; rfl)
      refine ⟨⟨?_, ?_, ?_, ?_, ?_⟩, ?_, hg, he⟩
      · intro e hm
        rw [List.mem_append] at hm
        rcases hm with hm | hm
        · exact Or.inr ⟨(g3 e hm).1, (g3 e hm).2.1⟩
        · exact Or.inl (n1 e hm).1
      · exact nodup_append g4.nodup n2 (fun e he => (n1 e he).2.2)
      · intro e
        have := congrArg List.length e
        rw [List.length_append, List.length_nil] at this
        have h0 := hck.2.1
        omega
      · rw [List.filter_append, f1, f2, List.append_nil, g1]; exact hck.2.2.1
      · rw [List.filter_append, f3, f4, List.nil_append]; exact hck.2.2.2
      · have b1 := (rdNum_some ha).1
        have b2 : ra = gs'.flatMap (fun e => pieceL e.name) ++ rb := g2
        have b3 : rb = pieceL [] ++ rc := (rdText_some hc).1
        have b4 : rc = bodyC 26 [] (sortN es') ++ rd := n5
        have b5 : rd = [] := hck.1
        unfold packC
        rw [sortN_filter, sortN_filter, List.filter_append, List.filter_append, f1, f2, f3, f4, List.append_nil, List.nil_append, sortN_rising gs' g4, g1, b1, b2, b3, b4, b5]
        simp
    · simp at h
  · simp at h

end Go.Proofs.YtocbogeoffeolaaGreatDoor

namespace Go.Proofs.YtocbogeoffeolaaGreatDoor
open Go.RowKit

theorem name_len {s : Wd} (h : nameB s = true) : 0 < s.length ∧ s.length ≤ 8 := by
  unfold nameB at h
  simp only [Bool.and_eq_true, decide_eq_true_eq] at h
  exact ⟨h.1.2, h.2⟩
theorem query_len {s : Wd} (h : queryB s = true) : s.length ≤ 24 := by
  unfold queryB at h
  simp only [Bool.and_eq_true, decide_eq_true_eq] at h
  exact h.1
theorem name_behind {s : Wd} (h : nameB s = true) : Op.bytesLess [] s = true := by
  have := (name_len h).1
  cases s with
  | nil => simp at this
  | cons a s => rfl
theorem key_len {e : Ent} (h : okE e) : (keyE e).length ≤ 24 ∧ 0 < (keyE e).length := by
  have h1 := query_len h.2.2.1
  have h2 := h.2.2.2.1
  unfold keyE
  rw [foldL_length]
  refine ⟨h1, ?_⟩
  cases hh : e.text with
  | nil => exact absurd hh h2
  | cons a b => simp

theorem rdName_piece {ks : List Wd} {last nm : Wd} (r : Wd) (h1 : nameB nm = true) (h2 : Op.bytesLess last nm = true) (h3 : nm ∉ ks) : rdName ks last (pieceL nm ++ r) = some (nm, r) := by
  unfold rdName
  rw [rdText_piece nm r (by have := (name_len h1).2; omega)]
  simp [h1, h2, h3]
theorem rdEntry_ent (e : Ent) (h : okE e) (r : Wd) : rdEntry e.name (pieceL e.text ++ (threeL e.weight ++ (u8 e.tags :: r))) = some (e, r) := by
  obtain ⟨h1, h2, h3, h4, h5, h6, h7, h8⟩ := h
  obtain ⟨nm, gn, tx, wt, tg⟩ := e
  simp only at h1 h2 h3 h4 h5 h6 h7 h8
  subst h1
  obtain ⟨n, rfl⟩ := Int.eq_ofNat_of_zero_le h5
  obtain ⟨m, rfl⟩ := Int.eq_ofNat_of_zero_le h7
  have hw : n ≤ 1000000 := by omega
  unfold rdEntry
  rw [rdText_piece tx _ (by have := query_len h3; omega)]
  simp only [Option.bind_some, h3, h4, ne_eq, not_false_eq_true, and_self, if_true]
  rw [rdWeight_three n (by omega)]
  simp only [Option.bind_some, hw, if_true]
  rw [rdNum_u8 m (by omega)]
  rfl
theorem rdEnts_ents (path : Wd) : ∀ (es : List Ent) (ks : List Wd) (last rest : Wd), (∀ e ∈ es, okE e ∧ keyE e = path ∧ e.name ∉ ks ∧ Op.bytesLess last e.name = true) → Rising es → rdEnts es.length path ks last (es.flatMap entB ++ rest) = some (es, rest) := by
  intro es
  induction es with
  | nil => intro ks last rest _ _; rfl
  | cons e es ih =>
    intro ks last rest h hr
    obtain ⟨a1, a2, a3, a4⟩ := h e (by simp)
    have hr2 := List.pairwise_cons.1 hr
    have e1 : (e :: es).flatMap entB ++ rest = pieceL e.name ++ (pieceL e.text ++ (threeL e.weight ++ (u8 e.tags :: (es.flatMap entB ++ rest)))) := by
      rw [List.flatMap_cons]; simp [entB]
    rw [e1, List.length_cons, rdEnts, rdName_piece _ a1.2.1 a4 a3]
    simp only [Option.bind_some]
    rw [rdEntry_ent e a1]
    simp only [Option.bind_some, a2, if_true]
    rw [ih _ _ _ (fun x hx => ?_) hr2.2]
    · rfl
    · obtain ⟨b1, b2, b3, b4⟩ := h x (by simp [hx])
      refine ⟨b1, b2, ?_, hr2.1 x hx⟩
      intro hm
      simp only [List.mem_append, List.mem_singleton] at hm
      rcases hm with hm | hm
      · exact b3 hm
      · exact bl_ne (hr2.1 x hx) hm.symm
theorem rdGone_gone : ∀ (es : List Ent) (ks : List Wd) (last rest : Wd), (∀ e ∈ es, e = ⟨e.name, true, [], 0, 0⟩ ∧ nameB e.name = true ∧ e.name ∉ ks ∧ Op.bytesLess last e.name = true) → Rising es → rdGone es.length ks last (es.flatMap (fun e => pieceL e.name) ++ rest) = some (es, rest) := by
  intro es
  induction es with
  | nil => intro ks last rest _ _; rfl
  | cons e es ih =>
    intro ks last rest h hr
    obtain ⟨a1, a2, a3, a4⟩ := h e (by simp)
    have hr2 := List.pairwise_cons.1 hr
    rw [List.flatMap_cons, List.append_assoc, List.length_cons, rdGone, rdName_piece _ a2 a4 a3]
    simp only [Option.bind_some]
    rw [ih _ _ _ (fun x hx => ?_) hr2.2]
    · simp only [Option.bind_some]
      rw [← a1]
    · obtain ⟨b1, b2, b3, b4⟩ := h x (by simp [hx])
      refine ⟨b1, b2, ?_, hr2.1 x hx⟩
      intro hm
      simp only [List.mem_append, List.mem_singleton] at hm
      rcases hm with hm | hm
      · exact b3 hm
      · exact bl_ne (hr2.1 x hx) hm.symm

/-- Entries by their groups. -/
theorem ent_nodup {G : List Ent} (h : (G.map Ent.name).Nodup) : G.Nodup := List.Pairwise.of_map _ (fun a b hab e => hab (by rw [e])) h
theorem grp_mem {G : List Ent} {p : Wd} {c : UInt8} {e : Ent} : e ∈ grp G p c ↔ e ∈ G ∧ p ++ [c] <+: keyE e := by rw [grp_eq]; exact atP_mem
theorem heads_rising (G : List Ent) (p : Wd) : (heads G p).Pairwise fun a b => a.toNat < b.toNat := bytes_rising.filter _
theorem heads_iff {G : List Ent} {p : Wd} {c : UInt8} : c ∈ heads G p ↔ ∃ e ∈ G, p ++ [c] <+: keyE e := by
  unfold heads
  rw [List.mem_filter]
  constructor
  · rintro ⟨_, h⟩
    cases hg : grp G p c with
    | nil => rw [hg] at h; simp at h
    | cons e t =>
      have := grp_mem.1 (show e ∈ grp G p c by rw [hg]; simp)
      exact ⟨e, this⟩
  · rintro ⟨e, he, hp⟩
    refine ⟨bytes_mem c, ?_⟩
    have := grp_mem.2 ⟨he, hp⟩
    cases hg : grp G p c with
    | nil => rw [hg] at this; simp at this
    | cons e t => rfl
theorem grps_nodup {G : List Ent} {p : Wd} (h : G.Nodup) : ∀ (cs : List UInt8), cs.Nodup → (cs.flatMap (grp G p)).Nodup := by
  intro cs
  induction cs with
  | nil => intro _; simp
  | cons c cs ih =>
    intro hc
    have hc2 := List.nodup_cons.1 hc
    rw [List.flatMap_cons, List.nodup_append]
    refine ⟨h.filter _, ih hc2.2, fun a ha b hb e => ?_⟩
    subst e
    obtain ⟨d, hd, hb⟩ := List.mem_flatMap.1 hb
    have := pre_byte (grp_mem.1 ha).2 (grp_mem.1 hb).2
    subst this
    exact hc2.1 hd
theorem parts_perm {G : List Ent} {p : Wd} (h : G.Nodup) (hp : ∀ e ∈ G, p <+: keyE e) : (ownP G p ++ (heads G p).flatMap (grp G p)).Perm G := by
  rw [List.perm_ext_iff_of_nodup _ h]
  · intro e
    rw [List.mem_append]
    constructor
    · rintro (h | h)
      · exact (List.mem_filter.1 h).1
      · obtain ⟨c, _, h⟩ := List.mem_flatMap.1 h
        exact (grp_mem.1 h).1
    · intro he
      by_cases hk : keyE e = p
      · exact Or.inl (List.mem_filter.2 ⟨he, beq_iff_eq.2 hk⟩)
      · have : p ++ [(keyE e).getD p.length 0] <+: keyE e := (snoc_pre _ _ _).2 ⟨hp e he, pre_lt (hp e he) hk, rfl⟩
        exact Or.inr (List.mem_flatMap.2 ⟨_, heads_iff.2 ⟨e, he, this⟩, grp_mem.2 ⟨he, this⟩⟩)
  · rw [List.nodup_append]
    refine ⟨h.filter _, grps_nodup h _ (rising_nodup (heads_rising G p)), fun a ha b hb e => ?_⟩
    subst e
    obtain ⟨c, _, hb⟩ := List.mem_flatMap.1 hb
    have h1 := beq_iff_eq.1 (List.mem_filter.1 ha).2
    have h2 := ((snoc_pre _ _ _).1 (grp_mem.1 hb).2).2.1
    rw [h1] at h2; omega

theorem name_inj {G : List Ent} (h : (G.map Ent.name).Nodup) {a b : Ent} (ha : a ∈ G) (hb : b ∈ G) (hn : a.name = b.name) : a = b := by
  induction G with
  | nil => simp at ha
  | cons x G ih =>
    rw [List.map_cons, List.nodup_cons] at h
    simp only [List.mem_cons] at ha hb
    rcases ha with rfl | ha <;> rcases hb with rfl | hb
    · rfl
    · exact absurd (List.mem_map.2 ⟨b, hb, hn.symm⟩) h.1
    · exact absurd (List.mem_map.2 ⟨a, ha, hn⟩) h.1
    · exact ih h.2 ha hb
theorem maxW_le {l : List Ent} (h : ∀ e ∈ l, e.weight ≤ 1000000) : maxW l ≤ 1000000 := by
  induction l with
  | nil => simp [maxW]
  | cons e l ih =>
    have h1 := h e (by simp)
    have h2 := ih (fun x hx => h x (by simp [hx]))
    rw [maxW_cons]; omega
def NodeB (node : Wd → List Wd → Wd → Option (Nat × List Ent × Wd)) (f : Nat) : Prop :=
  ∀ (path : Wd) (ks : List Wd) (G : List Ent) (rest : Wd), Rising G → (∀ e ∈ G, okE e ∧ path <+: keyE e ∧ e.name ∉ ks) → G.length ≤ 255 → (path = [] ∨ (G ≠ [] ∧ stem G = path)) → 26 ≤ f + path.length →
    ∃ es, node path ks (bodyC f path G ++ rest) = some ((maxW G).toNat, es, rest) ∧ es.Perm G
theorem rdKids_kids {node : Wd → List Wd → Wd → Option (Nat × List Ent × Wd)} {f : Nat} (hN : NodeB node f) (path : Wd) (G : List Ent) (hG : Rising G) (hok : ∀ e ∈ G, okE e) (hl : G.length ≤ 255) (hf : 25 ≤ f + path.length) :
    ∀ (cs : List UInt8) (ks : List Wd) (last : Int) (rest : Wd), (cs.Pairwise fun a b => a.toNat < b.toNat) → (∀ c ∈ cs, c ∈ heads G path ∧ last < (c.toNat : Int)) → (∀ e ∈ cs.flatMap (grp G path), e.name ∉ ks) →
      ∃ es, rdKids node cs.length path ks last (cs.flatMap (fun c => pieceL ((stem (grp G path c)).drop path.length) ++ bodyC f (stem (grp G path c)) (grp G path c)) ++ rest) = some ((maxW (cs.flatMap (grp G path))).toNat, es, rest) ∧ es.Perm (cs.flatMap (grp G path)) := by
  intro cs
  induction cs with
  | nil => intro ks last rest _ _ _; exact ⟨[], rfl, List.Perm.refl _⟩
  | cons c cs ih =>
    intro ks last rest hr hc hk
    have hr2 := List.pairwise_cons.1 hr
    obtain ⟨hc1, hc2⟩ := hc c (by simp)
    have hne := heads_mem hc1
    rw [← grp_eq] at hne
    have hpre := stem_pre (l := G) (p := path ++ [c]) (by rw [← grp_eq]; exact hne)
    rw [← grp_eq] at hpre
    have hst := stem_is hne
    have hGr : Rising (grp G path c) := hG.filter _
    have hGm : ∀ e ∈ grp G path c, okE e ∧ stem (grp G path c) <+: keyE e ∧ e.name ∉ ks := fun e he => ⟨hok e (grp_mem.1 he).1, hst.1 _ (List.mem_map.2 ⟨e, he, rfl⟩), hk e (by rw [List.flatMap_cons]; exact List.mem_append_left _ he)⟩
    have hGl : (grp G path c).length ≤ 255 := Nat.le_trans (List.length_filter_le _ _) hl
    obtain ⟨t, ht⟩ := hpre
    obtain ⟨e0, he0⟩ := List.exists_mem_of_ne_nil _ hne
    have hlen : (stem (grp G path c)).length ≤ 24 := Nat.le_trans (hGm e0 he0).2.1.length_le (key_len (hGm e0 he0).1).1
    have hinj : ∀ e ∈ cs.flatMap (grp G path), e.name ∉ (grp G path c).map Ent.name := by
      intro e he hm
      obtain ⟨d, hd, he⟩ := List.mem_flatMap.1 he
      obtain ⟨x, hx, hxn⟩ := List.mem_map.1 hm
      have := name_inj hG.nodup (grp_mem.1 hx).1 (grp_mem.1 he).1 hxn
      subst this
      have := pre_byte (grp_mem.1 hx).2 (grp_mem.1 he).2
      have h3 := hr2.1 d hd
      rw [this] at h3; omega
    have hkr : ∀ e ∈ cs.flatMap (grp G path), e.name ∉ ks := fun e he => hk e (by rw [List.flatMap_cons]; exact List.mem_append_right _ he)
    have hdrop : (stem (grp G path c)).drop path.length = c :: t := by rw [← ht]; simp
    have hcat : path ++ c :: t = stem (grp G path c) := by rw [← ht]; simp
    have hsl : path.length + 1 ≤ (stem (grp G path c)).length := by rw [← hcat]; simp
    obtain ⟨e1, h1, h1p⟩ := hN (stem (grp G path c)) ks (grp G path c) (cs.flatMap (fun c => pieceL ((stem (grp G path c)).drop path.length) ++ bodyC f (stem (grp G path c)) (grp G path c)) ++ rest) hGr hGm hGl (Or.inr ⟨hne, rfl⟩) (by omega)
    obtain ⟨e2, h2, h2p⟩ := ih (ks ++ e1.map Ent.name) (c.toNat : Int) rest hr2.2 (fun d hd => ⟨(hc d (by simp [hd])).1, by have := hr2.1 d hd; omega⟩) (fun e he hm => by
      rw [List.mem_append] at hm
      rcases hm with hm | hm
      · exact hkr e he hm
      · exact hinj e he ((h1p.map Ent.name).mem_iff.1 hm))
    refine ⟨e1 ++ e2, ?_, ?_⟩
    · rw [List.flatMap_cons, List.flatMap_cons, List.length_cons, rdKids, hdrop, List.append_assoc, List.append_assoc, rdText_piece _ _ (by have := congrArg List.length hcat; simp at this; simp; omega)]
      simp only [Option.bind_some, List.getD_cons_zero, ne_eq, reduceCtorEq, not_false_eq_true, hc2, and_self, if_true, hcat]
      rw [h1]
      simp only [Option.bind_some]
      rw [h2]
      simp only [Option.bind_some, Option.some.injEq, Prod.mk.injEq, and_true]
      rw [maxW_append]
      have := maxW_pos (grp G path c)
      have := maxW_pos (cs.flatMap (grp G path))
      omega
    · rw [List.flatMap_cons]; exact h1p.append h2p
theorem rdNode_body : ∀ f : Nat, NodeB (rdNode f) f := by
  intro f
  induction f with
  | zero =>
    intro path ks G rest hr hm hl hp hf
    rcases hp with rfl | ⟨hne, hs⟩
    · simp at hf
    · obtain ⟨e, he⟩ := List.exists_mem_of_ne_nil _ hne
      have := (hm e he).2.1.length_le
      have := (key_len (hm e he).1).1
      omega
  | succ f ih =>
    intro path ks G rest hr hm hl hp hf
    have hpl : path.length ≤ 24 := by
      rcases hp with rfl | ⟨hne, hs⟩
      · simp
      · obtain ⟨e, he⟩ := List.exists_mem_of_ne_nil _ hne
        exact Nat.le_trans (hm e he).2.1.length_le (key_len (hm e he).1).1
    have hperm := parts_perm (ent_nodup hr.nodup) (fun e he => (hm e he).2.1)
    have hlen := hperm.length_eq
    rw [List.length_append] at hlen
    have hown : ∀ e ∈ ownP G path, okE e ∧ keyE e = path ∧ e.name ∉ ks ∧ Op.bytesLess [] e.name = true := fun e he => by
      have h := List.mem_filter.1 he
      exact ⟨(hm e h.1).1, beq_iff_eq.1 h.2, (hm e h.1).2.2, name_behind (hm e h.1).1.2.1⟩
    have hmx : maxW G ≤ 1000000 := maxW_le (fun e he => (hm e he).1.2.2.2.2.2.1)
    have hm0 := maxW_pos G
    have hhl : (heads G path).length ≤ ((heads G path).flatMap (grp G path)).length := by
      rw [List.length_flatMap]
      have : ∀ cs : List UInt8, (∀ c ∈ cs, c ∈ heads G path) → cs.length ≤ (cs.map fun c => (grp G path c).length).sum := by
        intro cs
        induction cs with
        | nil => intro _; simp
        | cons c cs ih2 =>
          intro h
          have h1 := ih2 (fun d hd => h d (by simp [hd]))
          have h2 := heads_mem (h c (by simp))
          rw [← grp_eq] at h2
          have h3 := List.length_pos_iff.2 h2
          simp only [List.length_cons, List.map_cons, List.sum_cons]; omega
      exact this _ (fun _ h => h)
    obtain ⟨es, hk, hkp⟩ := rdKids_kids ih path G hr (fun e he => (hm e he).1) hl (by omega) (heads G path) (ks ++ (ownP G path).map Ent.name) (-1) rest (heads_rising G path) (fun c hc => ⟨hc, by omega⟩) (fun e he hmm => by
      obtain ⟨c, hc, he⟩ := List.mem_flatMap.1 he
      have heG := grp_mem.1 he
      rw [List.mem_append] at hmm
      rcases hmm with hmm | hmm
      · exact (hm e heG.1).2.2 hmm
      · obtain ⟨x, hx, hxn⟩ := List.mem_map.1 hmm
        have hx2 := List.mem_filter.1 hx
        have := name_inj hr.nodup hx2.1 heG.1 hxn
        subst this
        have h1 := beq_iff_eq.1 hx2.2
        have h2 := ((snoc_pre _ _ _).1 heG.2).2.1
        rw [h1] at h2; omega)
    refine ⟨ownP G path ++ es, ?_, (List.Perm.append_left _ hkp).trans hperm⟩
    have hG : ((maxW G).toNat : Int) = maxW G := by omega
    have e1 : bodyC (f + 1) path G ++ rest = threeL (((maxW G).toNat : Nat) : Int) ++ (u8 ((ownP G path).length : Int) :: ((ownP G path).flatMap entB ++ (u8 ((heads G path).length : Int) :: ((heads G path).flatMap (fun c => pieceL ((stem (grp G path c)).drop path.length) ++ bodyC f (stem (grp G path c)) (grp G path c)) ++ rest)))) := by
      rw [hG, bodyC]; simp
    have hsum : maxW G = max (maxW (ownP G path)) (maxW ((heads G path).flatMap (grp G path))) := by rw [← maxW_append, maxW_perm hperm]
    have hm1 := maxW_pos (ownP G path)
    have hm2 := maxW_pos ((heads G path).flatMap (grp G path))
    have hchk : path = [] ∨ 0 < (ownP G path).length ∨ 1 < (heads G path).length := by
      rcases hp with h | ⟨hne, hs⟩
      · exact Or.inl h
      · refine Or.inr (Classical.byContradiction fun hno => ?_)
        have ho : ownP G path = [] := List.length_eq_zero_iff.1 (by omega)
        have hst := stem_is hne
        rw [hs] at hst
        obtain ⟨e, he⟩ := List.exists_mem_of_ne_nil _ hne
        have hnk : ∀ x ∈ G, keyE x ≠ path := fun x hx hk => by
          have : x ∈ ownP G path := List.mem_filter.2 ⟨hx, beq_iff_eq.2 hk⟩
          rw [ho] at this; simp at this
        have hb : ∀ x ∈ G, path ++ [(keyE x).getD path.length 0] <+: keyE x := fun x hx => (snoc_pre _ _ _).2 ⟨(hm x hx).2.1, pre_lt (hm x hx).2.1 (hnk x hx), rfl⟩
        have hsame : ∀ x ∈ G, (keyE x).getD path.length 0 = (keyE e).getD path.length 0 := by
          intro x hx
          have i1 := heads_iff.2 ⟨x, hx, hb x hx⟩
          have i2 := heads_iff.2 ⟨e, he, hb e he⟩
          match hh : heads G path with
          | [] => rw [hh] at i1; simp at i1
          | [d] => rw [hh] at i1 i2; simp only [List.mem_singleton] at i1 i2; rw [i1, i2]
          | d :: d2 :: ds => rw [hh] at hno; simp at hno
        have := hst.2 (path ++ [(keyE e).getD path.length 0]) (fun s hs => by
          obtain ⟨x, hx, rfl⟩ := List.mem_map.1 hs
          rw [← hsame x hx]; exact hb x hx)
        have := this.length_le
        simp at this
        omega
    rw [e1, rdNode, if_pos hpl, rdWeight_three _ (by omega)]
    simp only [Option.bind_some]
    rw [rdNum_u8 _ (by omega)]
    simp only [Option.bind_some]
    rw [rdEnts_ents path _ ks [] _ hown (hr.filter _)]
    simp only [Option.bind_some]
    rw [rdNum_u8 _ (by omega)]
    simp only [Option.bind_some]
    rw [hk]
    simp only [Option.bind_some]
    rw [if_pos ⟨by omega, hchk⟩]

/-- What is written of a segment that may be is read. -/
theorem rdSeg_pack {l : List Ent} (h : OkSeg l) : ∃ gs es, rdSeg (packC l) = some (gs, es) ∧ (gs ++ es).Perm l := by
  obtain ⟨h1, h2, h3, h4, h5⟩ := h
  have hR := rising_sortN l h2
  have hp := sortN_perm l
  have hpg := hp.filter (fun e => e.gone)
  have hpe := hp.filter (fun e => !e.gone)
  have hsplit : ((sortN l).filter (fun e => e.gone) ++ (sortN l).filter (fun e => !e.gone)).Perm l := (List.filter_append_perm _ _).trans hp
  have hlg := hpg.length_eq
  have hle := hpe.length_eq
  have hRg : Rising ((sortN l).filter fun e => e.gone) := hR.filter _
  have hRe : Rising ((sortN l).filter fun e => !e.gone) := hR.filter _
  have hmg : ∀ e ∈ (sortN l).filter (fun e => e.gone), e = ⟨e.name, true, [], 0, 0⟩ ∧ nameB e.name = true ∧ e.name ∉ ([] : List Wd) ∧ Op.bytesLess [] e.name = true := fun e he => by
    have hm := List.mem_filter.1 he
    rcases h1 e (sortN_mem.1 hm.1) with hk | hk
    · rw [hk.1] at hm; simp at hm
    · exact ⟨hk.1, hk.2, by simp, name_behind hk.2⟩
  have hme : ∀ e ∈ (sortN l).filter (fun e => !e.gone), okE e ∧ ([] : Wd) <+: keyE e ∧ e.name ∉ ((sortN l).filter fun e => e.gone).map Ent.name := fun e he => by
    have hm := List.mem_filter.1 he
    rcases h1 e (sortN_mem.1 hm.1) with hk | hk
    · refine ⟨hk, List.nil_prefix, fun hx => ?_⟩
      obtain ⟨x, hx, hn⟩ := List.mem_map.1 hx
      have hx2 := List.mem_filter.1 hx
      have := name_inj hR.nodup hx2.1 hm.1 hn
      subst this
      have a := hx2.2
      have b := hm.2
      simp [a] at b
    · rw [hk.1] at hm; simp at hm
  unfold packC
  generalize (sortN l).filter (fun e => e.gone) = gs at *
  generalize (sortN l).filter (fun e => !e.gone) = es at *
  obtain ⟨es', hn, hnp⟩ := rdNode_body 26 [] (gs.map Ent.name) es [] hRe hme (by omega) (Or.inl rfl) (by simp)
  refine ⟨gs, es', ?_, (List.Perm.append_left _ hnp).trans hsplit⟩
  have hnl := hnp.length_eq
  have hsl := hsplit.length_eq
  rw [List.length_append] at hsl
  have hl0 := List.length_pos_iff.2 h3
  rw [List.append_nil] at hn
  unfold rdSeg
  rw [rdNum_u8 _ (by omega)]
  simp only [Option.bind_some]
  rw [rdGone_gone gs [] [] _ hmg hRg]
  simp only [Option.bind_some]
  rw [rdText_piece [] _ (by simp)]
  simp only [Option.bind_some, if_true]
  rw [hn]
  simp only [Option.bind_some]
  rw [if_pos ⟨trivial, by omega, by omega, by omega⟩]

end Go.Proofs.YtocbogeoffeolaaGreatDoor

namespace Go.Proofs.YtocbogeoffeolaaGreatDoor
open Go.RowKit Go.Maps

theorem rs_lt {w : World} {Rb Mk Bx Bs : Nat} {S : ByteArray} {rest : Wd} {told : List Ent} (h : RS w Rb Mk Bx Bs S rest told) : Rb < w.heap.size := by
  obtain ⟨p, h1, _⟩ := h.rd
  exact heap_lt h1
theorem rs_at {w : World} {Rb Mk Bx Bs : Nat} {S : ByteArray} {rest : Wd} {told : List Ent} (h : RS w Rb Mk Bx Bs S rest told) : ∃ p : Nat, w.cell? ⟨Rb, 1, none⟩ = some (.int .i64 p) := by
  obtain ⟨p, h1, _⟩ := h.rd
  exact ⟨p, by rw [cell_of_heap h1]; rfl⟩

/-- Behind so many gone names. -/
def goneStep (X0 : Option (List Ent × Wd)) (m : Nat) (done : List Ent) (ls r : Wd) : Prop := X0 = (rdGone m (done.map Ent.name) ls r).bind fun z => some (done ++ z.1, z.2)

set_option maxHeartbeats 2000000 in
set_option maxRecDepth 100000 in
theorem gone_read (Rb Mk Bx Bs : Nat) (S : ByteArray) (rest : Wd) (w : World) (h : RS w Rb Mk Bx Bs S rest []) (hS : S.size ≤ 1099511627775) :
    Calls Tryz.prog 211 #[.pointer (some ⟨Rb, 0, none⟩)] w (Ends (GR Rb Mk Bs) w ((rdNum rest).bind fun a => (rdGone a.1 [] [] a.2).bind fun b => some (a.1, b.1, b.2)) fun x e w' => e = .returned (.int .i64 x.1) ∧ RS w' Rb Mk Bx Bs S x.2.2 x.2.1) := by
  have ht := number_any Rb S rest Mk (tellV Bx) w h.rd (by omega)
  have HR : Hid (RS w Rb Mk Bx Bs S rest []) := h
  clear h
  cases hx : rdNum rest with
  | none =>
    rw [hx] at ht
    clear hx
    go_enter Tryz.func211, Tryz.ntmps211
    go_wp2_with fail
    refine ht.mono ?_
    rintro e w' ⟨g1, rfl⟩
    exact ⟨rfl, g1.toGR, rfl⟩
  | some x =>
    obtain ⟨n, r0⟩ := x
    rw [hx] at ht
    obtain ⟨hr0, hn256⟩ := rdNum_some hx
    have hrl : r0.length ≤ rest.length := by rw [hr0]; simp
    clear hx hr0
    have HX : Hid (((some (n, r0)).bind fun a : Nat × Wd => (rdGone a.1 [] [] a.2).bind fun b => some (a.1, b.1, b.2)) = (rdGone n [] [] r0).bind fun b => some (n, b.1, b.2)) := rfl
    obtain ⟨X0, hX0⟩ : ∃ X0, rdGone n [] [] r0 = X0 := ⟨_, rfl⟩
    rw [HX.out, hX0]
    clear HX
    go_enter Tryz.func211, Tryz.ntmps211
    go_wp2_with fail
    refine ht.mono ?_
    rintro e w1 ⟨g1, rfl, g2, g3⟩
    have HR1 : Hid (RS w1 Rb Mk Bx Bs S r0 []) := HR.out.turn g1 g2 hrl
    have HF1 : Hid (FrameF (GR Rb Mk Bs) w w1) := g1.toGR
    have HX0 : Hid (goneStep X0 n [] [] r0) := by show X0 = _; rw [← hX0]; cases h : rdGone n [] [] r0 with
      | none => rw [show (([] : List Ent).map Ent.name) = [] from rfl, h]; rfl
      | some z => rw [show (([] : List Ent).map Ent.name) = [] from rfl, h]; simp
    clear g1 g2 g3 ht hX0
    go_wp2
    go_loopw [4, 9] (fun l i wr => ∃ (k : Nat) (done : List Ent) (ls r : Wd), k ≤ n ∧ i = .int .i64 k ∧ l = .string ⟨ls.toArray⟩ ∧ RS wr Rb Mk Bx Bs S r done ∧ FrameF (GR Rb Mk Bs) w wr ∧ goneStep X0 (n - k) done ls r) (fun _ i _ => n - (intOf i).toNat)
    case atStart => exact ⟨0, [], [], r0, Nat.zero_le _, rfl, rfl, HR1.out, HF1.out, HX0.out⟩
    case round =>
      obtain ⟨k, done, ls, r, hk, rfl, rfl, hr, hf, hg⟩ := hrel
      have HRk : Hid (RS wr Rb Mk Bx Bs S r done) := hr
      have HFk : Hid (FrameF (GR Rb Mk Bs) w wr) := hf
      have HGk : Hid (goneStep X0 (n - k) done ls r) := hg
      clear hr hf hg
      by_cases hlt : k < n
      · obtain ⟨p, hp⟩ := rs_at HRk.out
        have hnb := nameBehind_any Rb Mk Bx Bs S r done ls wr HRk.out (by omega)
        have hm : n - k = (n - (k + 1)) + 1 := by omega
        cases hx : rdName (done.map Ent.name) ls r with
        | none =>
          rw [hx] at hnb
          have HX1 : Hid (X0 = none) := by
            show X0 = none
            have := HGk.out
            unfold goneStep at this
            rw [this, hm, rdGone, hx]
            rfl
          clear hx
          go_wp2_with fail
          refine hnb.mono ?_
          rintro e w' ⟨g1, rfl⟩
          exact ⟨rfl, HFk.out.then g1, by rw [HX1.out]; rfl⟩
        | some x =>
          obtain ⟨nm, r1⟩ := x
          rw [hx] at hnb
          obtain ⟨hpc, hnmB, hlsB, hnot⟩ := rdName_some hx
          have HX1 : Hid (goneStep X0 (n - (k + 1)) (done ++ [⟨nm, true, [], 0, 0⟩]) nm r1) := by
            show X0 = _
            have := HGk.out
            unfold goneStep at this
            rw [this, hm, rdGone, hx]
            simp only [Option.bind_some, List.map_append, List.map_cons, List.map_nil]
            cases rdGone (n - (k + 1)) (done.map Ent.name ++ [nm]) nm r1 with
            | none => rfl
            | some z => simp
          have hlen : r1.length + 1 ≤ r.length := by rw [hpc]; simp [pieceL]
          have hnl : nm.length ≤ maxLen := by have := (name_len hnmB).2; unfold maxLen; omega
          clear hx hpc hnmB hlsB
          go_wp2_with fail
          refine hnb.mono ?_
          rintro e w2 ⟨g1, rfl, g2⟩
          have hfew := HRk.out.few
          have hsay := say_any Rb Mk Bx Bs S r1 done ⟨nm, true, [], 0, 0⟩ p w2 g2 hS hnot hnl (by omega)
          have HF2 : Hid (FrameF (GR Rb Mk Bs) w w2) := HFk.out.then g1
          clear hnb g1 g2 hnot hp
          go_wp2_with fail
          refine hsay.mono ?_
          rintro e w3 ⟨rfl, q1, q2⟩
          have HR3 : Hid (RS w3 Rb Mk Bx Bs S r1 (done ++ [⟨nm, true, [], 0, 0⟩])) := q1
          have HF3 : Hid (FrameF (GR Rb Mk Bs) w w3) := HF2.out.then q2
          clear hsay q1 q2
          go_wp2
          go_roundw
          case rel => exact ⟨k + 1, _, nm, r1, by omega, by go_num, rfl, HR3.out, HF3.out, HX1.out⟩
          case measure => simp [intOf]; omega
      · have hkn : n - k = 0 := by omega
        have HX1 : Hid (X0 = some (done, r)) := by
          show X0 = _
          have := HGk.out
          unfold goneStep at this
          rw [this, hkn, rdGone]
          simp
        go_wp2
        go_ret
        refine ⟨HFk.out, ?_⟩
        rw [HX1.out]
        exact ⟨rfl, HRk.out⟩

def entsStep (X0 : Option (List Ent × Wd)) (path : Wd) (told : List Ent) (m : Nat) (done : List Ent) (ls r : Wd) : Prop := X0 = (rdEnts m path ((told ++ done).map Ent.name) ls r).bind fun z => some (done ++ z.1, z.2)

theorem rdEntry_form {nm r : Wd} {y : Ent × Wd} (h : rdEntry nm r = some y) : ∃ tx wt tg r2, y = (⟨nm, false, tx, wt, tg⟩, r2) ∧ tx.length < 256 ∧ r2.length ≤ r.length := by
  have h0 := h
  unfold rdEntry at h
  obtain ⟨x, hx, h⟩ := Option.bind_eq_some_iff.1 h
  split at h
  · obtain ⟨z, hz, h⟩ := Option.bind_eq_some_iff.1 h
    split at h
    · obtain ⟨u, hu, h⟩ := Option.bind_eq_some_iff.1 h
      simp only [Option.some.injEq] at h
      subst h
      obtain ⟨g1, g2⟩ := rdText_some hx
      refine ⟨_, _, _, _, rfl, g2, ?_⟩
      have g3 := (rdWeight_some hz).1
      have g4 := (rdNum_some hu).1
      rw [g1, g3, g4]
      simp
      omega
    · simp at h
  · simp at h

set_option maxHeartbeats 4000000 in
set_option maxRecDepth 100000 in
theorem entries_read (Rb Mk Bx Bs : Nat) (S : ByteArray) (rest : Wd) (told : List Ent) (path : Wd) (w : World) (h : RS w Rb Mk Bx Bs S rest told) (hS : S.size ≤ 1099511627775) :
    Calls Tryz.prog 238 #[.pointer (some ⟨Rb, 0, none⟩), .string ⟨path.toArray⟩] w (Ends (GR Rb Mk Bs) w ((rdNum rest).bind fun a => (rdEnts a.1 path (told.map Ent.name) [] a.2).bind fun b => some (a.1, b.1, b.2)) fun x e w' => e = .returned (.tuple #[.int .i64 x.1, .int .i64 (maxW x.2.1)]) ∧ RS w' Rb Mk Bx Bs S x.2.2 (told ++ x.2.1)) := by
  have ht := number_any Rb S rest Mk (tellV Bx) w h.rd (by omega)
  have HR : Hid (RS w Rb Mk Bx Bs S rest told) := h
  clear h
  cases hx : rdNum rest with
  | none =>
    rw [hx] at ht
    clear hx
    go_enter Tryz.func238, Tryz.ntmps238
    go_wp2_with fail
    refine ht.mono ?_
    rintro e w' ⟨g1, rfl⟩
    exact ⟨rfl, g1.toGR, rfl⟩
  | some x =>
    obtain ⟨n, r0⟩ := x
    rw [hx] at ht
    obtain ⟨hr0, hn256⟩ := rdNum_some hx
    have hrl : r0.length ≤ rest.length := by rw [hr0]; simp
    clear hx hr0
    have HX : Hid (((some (n, r0)).bind fun a : Nat × Wd => (rdEnts a.1 path (told.map Ent.name) [] a.2).bind fun b => some (a.1, b.1, b.2)) = (rdEnts n path (told.map Ent.name) [] r0).bind fun b => some (n, b.1, b.2)) := rfl
    obtain ⟨X0, hX0⟩ : ∃ X0, rdEnts n path (told.map Ent.name) [] r0 = X0 := ⟨_, rfl⟩
    rw [HX.out, hX0]
    clear HX
    go_enter Tryz.func238, Tryz.ntmps238
    go_wp2_with fail
    refine ht.mono ?_
    rintro e w1 ⟨g1, rfl, g2, g3⟩
    have HR1 : Hid (RS w1 Rb Mk Bx Bs S r0 told) := HR.out.turn g1 g2 hrl
    have HF1 : Hid (FrameF (GR Rb Mk Bs) w w1) := g1.toGR
    have HX0 : Hid (entsStep X0 path told n [] [] r0) := by
      show X0 = _
      rw [List.append_nil, hX0]
      cases X0 <;> simp
    clear g1 g2 g3 ht hX0
    go_wp2
    go_loopw [5, 6, 12] (fun g l i wr => ∃ (k : Nat) (done : List Ent) (ls r : Wd), k ≤ n ∧ i = .int .i64 k ∧ l = .string ⟨ls.toArray⟩ ∧ g = .int .i64 (maxW done) ∧ RS wr Rb Mk Bx Bs S r (told ++ done) ∧ FrameF (GR Rb Mk Bs) w wr ∧ entsStep X0 path told (n - k) done ls r) (fun _ _ i _ => n - (intOf i).toNat)
    case atStart => exact ⟨0, [], [], r0, Nat.zero_le _, rfl, rfl, rfl, by rw [List.append_nil]; exact HR1.out, HF1.out, HX0.out⟩
    case round =>
      obtain ⟨k, done, ls, r, hk, rfl, rfl, rfl, hr, hf, hg⟩ := hrel
      have HRk : Hid (RS wr Rb Mk Bx Bs S r (told ++ done)) := hr
      have HFk : Hid (FrameF (GR Rb Mk Bs) w wr) := hf
      have HGk : Hid (X0 = (rdEnts (n - k) path ((told ++ done).map Ent.name) ls r).bind fun z => some (done ++ z.1, z.2)) := hg
      clear hr hf hg
      by_cases hlt : k < n
      · obtain ⟨p, hp⟩ := rs_at HRk.out
        have hnb := nameBehind_any Rb Mk Bx Bs S r (told ++ done) ls wr HRk.out (by omega)
        have hm : n - k = (n - (k + 1)) + 1 := by omega
        cases hx : rdName ((told ++ done).map Ent.name) ls r with
        | none =>
          rw [hx] at hnb
          have HX1 : Hid (X0 = none) := by
            show X0 = none
            rw [HGk.out, hm, rdEnts, hx]
            rfl
          clear hx
          go_wp2_with fail
          refine hnb.mono ?_
          rintro e w' ⟨g1, rfl⟩
          exact ⟨rfl, HFk.out.then g1, by rw [HX1.out]; rfl⟩
        | some x =>
          obtain ⟨nm, r1⟩ := x
          rw [hx] at hnb
          obtain ⟨hpc, hnmB, hlsB, hnot⟩ := rdName_some hx
          have HX1 : Hid (X0 = ((rdEntry nm r1).bind fun y => if keyE y.1 = path then (rdEnts (n - (k + 1)) path ((told ++ done).map Ent.name ++ [nm]) nm y.2).bind fun z => some (y.1 :: z.1, z.2) else none).bind fun z => some (done ++ z.1, z.2)) := by
            show X0 = _
            rw [HGk.out, hm, rdEnts, hx]
            rfl
          have hlen : r1.length + 1 ≤ r.length := by rw [hpc]; simp [pieceL]
          have hnl : nm.length ≤ maxLen := by have := (name_len hnmB).2; unfold maxLen; omega
          clear hx hpc hnmB hlsB HGk
          go_wp2_with fail
          refine hnb.mono ?_
          rintro e w2 ⟨g1, rfl, g2⟩
          have hfew := HRk.out.few
          have hent := entry_any Rb Mk Bx Bs S r1 (told ++ done) nm w2 g2 (by omega)
          have HF2 : Hid (FrameF (GR Rb Mk Bs) w w2) := HFk.out.then g1
          clear hnb g1 g2 hp
          cases hy : rdEntry nm r1 with
          | none =>
            rw [hy] at hent
            have HX2 : Hid (X0 = none) := by show X0 = none; rw [HX1.out, hy]; rfl
            clear hy
            go_wp2_with fail
            refine hent.mono ?_
            rintro e w' ⟨g1, rfl⟩
            exact ⟨rfl, HF2.out.then g1, by rw [HX2.out]; rfl⟩
          | some y =>
            obtain ⟨tx, wt, tg, r2, rfl, htx, hr2l⟩ := rdEntry_form hy
            rw [hy] at hent
            have HX2 : Hid (X0 = (if keyE (⟨nm, false, tx, wt, tg⟩ : Ent) = path then (rdEnts (n - (k + 1)) path ((told ++ done).map Ent.name ++ [nm]) nm r2).bind fun z => some ((⟨nm, false, tx, wt, tg⟩ : Ent) :: z.1, z.2) else none).bind fun z => some (done ++ z.1, z.2)) := by show X0 = _; rw [HX1.out, hy]; rfl
            clear hy HX1
            unfold entV at hent
            go_wp2_with fail
            refine hent.mono ?_
            rintro e w3 ⟨g1, rfl, g2⟩
            have HR3 : Hid (RS w3 Rb Mk Bx Bs S r2 (told ++ done)) := g2
            have HF3 : Hid (FrameF (GR Rb Mk Bs) w w3) := HF2.out.then g1
            clear hent g1 g2 HF2
            have hts : (⟨tx.toArray⟩ : ByteArray).size ≤ 1099511627776 := by show tx.toArray.size ≤ _; simp; omega
            obtain ⟨w4, hw4⟩ : ∃ w4, w3.alloc (.cells #[.string ⟨nm.toArray⟩, .string ⟨tx.toArray⟩, .int .i64 wt, .int .i64 tg] 96) = w4 := ⟨_, rfl⟩
            have hb4 : Below w3.heap.size w3 w4 := by rw [← hw4]; exact (Below.refl _ _).alloc (Nat.le_refl _) _
            have hh4 : w4.heap[w3.heap.size]? = some (.cells #[.string ⟨nm.toArray⟩, .string ⟨tx.toArray⟩, .int .i64 wt, .int .i64 tg] 96 (0, 0)) := by rw [← hw4]; exact heap_alloc_new w3 _
            have e1 : w4.cell? ⟨w3.heap.size, 1, none⟩ = some (.string ⟨tx.toArray⟩) := by rw [cell_of_heap hh4]; rfl
            go_wp2_with fail
            refine (pfold_any _ _ hts).mono ?_
            rintro e w5 ⟨rfl, hb5⟩
            clear hw4 e1
            have hz4 := hb4.size
            have hh5 : w5.heap[w3.heap.size]? = some (.cells #[.string ⟨nm.toArray⟩, .string ⟨tx.toArray⟩, .int .i64 wt, .int .i64 tg] 96 (0, 0)) := by rw [hb5.block _ (heap_lt hh4)]; exact hh4
            have hb35 : Below w3.heap.size w3 w5 := hb4.trans (hb5.mono hz4)
            have HR5 : Hid (RS w5 Rb Mk Bx Bs S r2 (told ++ done)) := HR3.out.below hb35
            have HF5 : Hid (FrameF (GR Rb Mk Bs) w w5) := HF3.out.then (FrameF.of_below hb35)
            have HH5 : Hid (w5.heap[w3.heap.size]? = some (.cells #[.string ⟨nm.toArray⟩, .string ⟨tx.toArray⟩, .int .i64 wt, .int .i64 tg] 96 (0, 0))) := hh5
            have d0 : w5.cell? ⟨w3.heap.size, 0, none⟩ = some (.string ⟨nm.toArray⟩) := by rw [cell_of_heap hh5]; rfl
            have d1 : w5.cell? ⟨w3.heap.size, 1, none⟩ = some (.string ⟨tx.toArray⟩) := by rw [cell_of_heap hh5]; rfl
            have d2 : w5.cell? ⟨w3.heap.size, 2, none⟩ = some (.int .i64 wt) := by rw [cell_of_heap hh5]; rfl
            have d3 : w5.cell? ⟨w3.heap.size, 3, none⟩ = some (.int .i64 tg) := by rw [cell_of_heap hh5]; rfl
            clear hb4 hh4 hb5 hh5 hb35 HR3 HF3
            rw [show (foldL (⟨tx.toArray⟩ : ByteArray).data.toList) = foldL tx from rfl]
            by_cases hkey : foldL tx = path
            · have hke : (foldL tx == path) = true := beq_iff_eq.2 hkey
              have HX3 : Hid (entsStep X0 path told (n - (k + 1)) (done ++ [⟨nm, false, tx, wt, tg⟩]) nm r2) := by
                show X0 = _
                rw [HX2.out, if_pos (show keyE (⟨nm, false, tx, wt, tg⟩ : Ent) = path from hkey)]
                rw [show ((told ++ (done ++ [(⟨nm, false, tx, wt, tg⟩ : Ent)])).map Ent.name) = (told ++ done).map Ent.name ++ [nm] by simp]
                cases rdEnts (n - (k + 1)) path ((told ++ done).map Ent.name ++ [nm]) nm r2 with
                | none => rfl
                | some z => simp
              clear hkey HX2
              go_wp2_with fail
              refine (must_yes _).mono ?_
              rintro e w' ⟨rfl, rfl⟩
              have hsay := say_any Rb Mk Bx Bs S r2 (told ++ done) ⟨nm, false, tx, wt, tg⟩ p w5 HR5.out hS hnot hnl (by omega)
              have hsv : sayV ⟨nm, false, tx, wt, tg⟩ = .agg #[.bool false, .string ⟨nm.toArray⟩, .string ⟨tx.toArray⟩, .int .i64 wt, .int .i64 tg] := rfl
              rw [hsv] at hsay
              clear hsv hnot
              go_wp2_with fail
              refine hsay.mono ?_
              rintro e w6 ⟨rfl, q1, q2⟩
              have hh6 : w6.heap[w3.heap.size]? = some (.cells #[.string ⟨nm.toArray⟩, .string ⟨tx.toArray⟩, .int .i64 wt, .int .i64 tg] 96 (0, 0)) := by
                rw [q2.block _ (heap_lt HH5.out) ?_]
                · exact HH5.out
                · rintro (h1 | h1 | h1)
                  · obtain ⟨p1, g1, _⟩ := HR5.out.rd
                    unfold RdAt at g1
                    rw [← h1, HH5.out] at g1
                    simp at g1
                  · exact HR5.out.kn.cells_ne HH5.out h1.symm
                  · exact MapL.cells_ne HR5.out.sd HH5.out h1.symm
              have d26 : w6.cell? ⟨w3.heap.size, 2, none⟩ = some (.int .i64 wt) := by rw [cell_of_heap hh6]; rfl
              have HR6 : Hid (RS w6 Rb Mk Bx Bs S r2 (told ++ (done ++ [⟨nm, false, tx, wt, tg⟩]))) := by show RS _ _ _ _ _ _ _ _; rw [← List.append_assoc]; exact q1
              have HF6 : Hid (FrameF (GR Rb Mk Bs) w w6) := HF5.out.then q2
              clear hsay q1 q2 hh6 d0 d1 d2 d3 HR5 HF5 HH5
              go_wp2
              go_roundw
              case rel =>
                refine ⟨k + 1, _, nm, r2, by omega, by go_num, rfl, ?_, HR6.out, HF6.out, HX3.out⟩
                rw [maxW_append, maxW_cons, show maxW [] = 0 from rfl]
                have := maxW_pos done
                show Value.int .i64 (max (maxW done) wt) = Value.int .i64 (max (maxW done) (max (max 0 wt) 0))
                congr 1
                omega
              case measure => simp [intOf]; omega
            · have hke : (foldL tx == path) = false := beq_eq_false_iff_ne.2 hkey
              have HX3 : Hid (X0 = none) := by
                show X0 = none
                rw [HX2.out, if_neg (show ¬ keyE (⟨nm, false, tx, wt, tg⟩ : Ent) = path from hkey)]
                rfl
              clear hkey
              go_wp2_with fail
              refine (must_no _).mono ?_
              rintro e w' ⟨rfl, rfl⟩
              exact ⟨rfl, HF5.out, by rw [HX3.out]; rfl⟩
      · have hkn : n - k = 0 := by omega
        have HX1 : Hid (X0 = some (done, r)) := by
          show X0 = _
          rw [HGk.out, hkn, rdEnts]
          simp
        go_wp2
        go_ret2
        refine ⟨HFk.out, ?_⟩
        rw [HX1.out]
        exact ⟨rfl, HRk.out⟩

end Go.Proofs.YtocbogeoffeolaaGreatDoor

namespace Go.Proofs.YtocbogeoffeolaaGreatDoor
open Go.RowKit Go.Maps

/-- What is asked of the reading of a node. -/
def NodeR (f : Nat) : Prop := ∀ (Rb Mk Bx Bs : Nat) (S : ByteArray) (rest : Wd) (told : List Ent) (path : Wd) (w : World), RS w Rb Mk Bx Bs S rest told → S.size ≤ 1099511627775 → 26 ≤ f + path.length → path.length ≤ 1099511627775 →
    Calls Tryz.prog 214 #[.pointer (some ⟨Rb, 0, none⟩), .string ⟨path.toArray⟩] w (Ends (GR Rb Mk Bs) w (rdNode f path (told.map Ent.name) rest) fun x e w' => e = .returned (.int .i64 x.1) ∧ RS w' Rb Mk Bx Bs S x.2.2 (told ++ x.2.1))

def kidsStep (X0 : Option (Nat × List Ent × Wd)) (f : Nat) (path : Wd) (told : List Ent) (m : Nat) (g : Nat) (done : List Ent) (last : Int) (r : Wd) : Prop := X0 = (rdKids (rdNode f) m path ((told ++ done).map Ent.name) last r).bind fun z => some (max g z.1, done ++ z.2.1, z.2.2)

theorem ba_two (a b : Wd) : (⟨a.toArray⟩ : ByteArray) ++ ⟨b.toArray⟩ = ⟨(a ++ b).toArray⟩ := by
  apply ByteArray.ext
  simp

set_option maxHeartbeats 4000000 in
set_option maxRecDepth 100000 in
theorem children_read (f : Nat) (hN : NodeR f) (Rb Mk Bx Bs : Nat) (S : ByteArray) (rest : Wd) (told : List Ent) (path : Wd) (w : World) (h : RS w Rb Mk Bx Bs S rest told) (hS : S.size ≤ 1099511627775) (hp : path.length ≤ 24) (hf : 25 ≤ f + path.length) :
    Calls Tryz.prog 239 #[.pointer (some ⟨Rb, 0, none⟩), .string ⟨path.toArray⟩] w (Ends (GR Rb Mk Bs) w ((rdNum rest).bind fun a => (rdKids (rdNode f) a.1 path (told.map Ent.name) (-1) a.2).bind fun b => some (a.1, b.1, b.2.1, b.2.2)) fun x e w' => e = .returned (.tuple #[.int .i64 x.1, .int .i64 x.2.1]) ∧ RS w' Rb Mk Bx Bs S x.2.2.2 (told ++ x.2.2.1)) := by
  have ht := number_any Rb S rest Mk (tellV Bx) w h.rd (by omega)
  have HR : Hid (RS w Rb Mk Bx Bs S rest told) := h
  have HN : Hid (NodeR f) := hN
  clear h hN
  cases hx : rdNum rest with
  | none =>
    rw [hx] at ht
    clear hx
    go_enter Tryz.func239, Tryz.ntmps239
    go_wp2_with fail
    refine ht.mono ?_
    rintro e w' ⟨g1, rfl⟩
    exact ⟨rfl, g1.toGR, rfl⟩
  | some x =>
    obtain ⟨n, r0⟩ := x
    rw [hx] at ht
    obtain ⟨hr0, hn256⟩ := rdNum_some hx
    have hrl : r0.length ≤ rest.length := by rw [hr0]; simp
    clear hx hr0
    have HX : Hid (((some (n, r0)).bind fun a : Nat × Wd => (rdKids (rdNode f) a.1 path (told.map Ent.name) (-1) a.2).bind fun b => some (a.1, b.1, b.2.1, b.2.2)) = (rdKids (rdNode f) n path (told.map Ent.name) (-1) r0).bind fun b => some (n, b.1, b.2.1, b.2.2)) := rfl
    obtain ⟨X0, hX0⟩ : ∃ X0, rdKids (rdNode f) n path (told.map Ent.name) (-1) r0 = X0 := ⟨_, rfl⟩
    rw [HX.out, hX0]
    clear HX
    go_enter Tryz.func239, Tryz.ntmps239
    go_wp2_with fail
    refine ht.mono ?_
    rintro e w1 ⟨g1, rfl, g2, g3⟩
    have HR1 : Hid (RS w1 Rb Mk Bx Bs S r0 told) := HR.out.turn g1 g2 hrl
    have HF1 : Hid (FrameF (GR Rb Mk Bs) w w1) := g1.toGR
    have HX0 : Hid (kidsStep X0 f path told n 0 [] (-1) r0) := by
      show X0 = _
      rw [List.append_nil, hX0]
      cases X0 <;> simp
    clear g1 g2 g3 ht hX0
    go_wp2
    go_loopw [5, 6, 11] (fun g l i wr => ∃ (k gg : Nat) (done : List Ent) (la : Int) (r : Wd), k ≤ n ∧ i = .int .i64 k ∧ l = .int .i64 la ∧ g = .int .i64 gg ∧ RS wr Rb Mk Bx Bs S r (told ++ done) ∧ FrameF (GR Rb Mk Bs) w wr ∧ kidsStep X0 f path told (n - k) gg done la r ∧ -1 ≤ la ∧ la ≤ 255) (fun _ _ i _ => n - (intOf i).toNat)
    case atStart => exact ⟨0, 0, [], -1, r0, Nat.zero_le _, rfl, rfl, rfl, by rw [List.append_nil]; exact HR1.out, HF1.out, HX0.out, by omega, by omega⟩
    case round =>
      obtain ⟨k, gg, done, la, r, hk, rfl, rfl, rfl, hr, hf', hg, hla0, hla1⟩ := hrel
      have HRk : Hid (RS wr Rb Mk Bx Bs S r (told ++ done)) := hr
      have HFk : Hid (FrameF (GR Rb Mk Bs) w wr) := hf'
      have HGk : Hid (X0 = (rdKids (rdNode f) (n - k) path ((told ++ done).map Ent.name) la r).bind fun z => some (max gg z.1, done ++ z.2.1, z.2.2)) := hg
      clear hr hf' hg
      by_cases hlt : k < n
      · have htx := text_any Rb S r Mk (tellV Bx) wr HRk.out.rd (by omega)
        have hm : n - k = (n - (k + 1)) + 1 := by omega
        cases hx : rdText r with
        | none =>
          rw [hx] at htx
          have HX1 : Hid (X0 = none) := by
            show X0 = none
            rw [HGk.out, hm, rdKids, hx]
            rfl
          clear hx
          go_wp2_with fail
          refine htx.mono ?_
          rintro e w' ⟨g1, rfl⟩
          exact ⟨rfl, HFk.out.then g1.toGR, by rw [HX1.out]; rfl⟩
        | some x =>
          obtain ⟨lb, r1⟩ := x
          rw [hx] at htx
          obtain ⟨hpc, h256⟩ := rdText_some hx
          have hlen : r1.length ≤ r.length := by rw [hpc]; simp
          have HX1 : Hid (X0 = (if lb ≠ [] ∧ la < ((lb.getD 0 0).toNat : Int) then (rdNode f (path ++ lb) ((told ++ done).map Ent.name) r1).bind fun y => (rdKids (rdNode f) (n - (k + 1)) path ((told ++ done).map Ent.name ++ y.2.1.map Ent.name) ((lb.getD 0 0).toNat : Int) y.2.2).bind fun z => some (max y.1 z.1, y.2.1 ++ z.2.1, z.2.2) else none).bind fun z => some (max gg z.1, done ++ z.2.1, z.2.2)) := by
            show X0 = _
            rw [HGk.out, hm, rdKids, hx]
            rfl
          clear hx hpc HGk
          go_wp2_with fail
          refine htx.mono ?_
          rintro e w2 ⟨g1, rfl, g2, g3⟩
          have HR2 : Hid (RS w2 Rb Mk Bx Bs S r1 (told ++ done)) := HRk.out.turn g1 g2 hlen
          have HF2 : Hid (FrameF (GR Rb Mk Bs) w w2) := HFk.out.then g1.toGR
          clear htx g1 g2 g3
          cases lb with
          | nil =>
            have HX2 : Hid (X0 = none) := by show X0 = none; rw [HX1.out, if_neg (fun h => h.1 rfl)]; rfl
            go_wp2_with fail
            refine (must_no _).mono ?_
            rintro e w' ⟨rfl, rfl⟩
            exact ⟨rfl, HF2.out, by rw [HX2.out]; rfl⟩
          | cons c cs =>
            have hc := c.toNat_lt
            have hsz : (⟨(c :: cs).toArray⟩ : ByteArray).size = cs.length + 1 := by show (c :: cs).toArray.size = _; simp
            have hgt : (⟨(c :: cs).toArray⟩ : ByteArray)[0]'(by rw [hsz]; omega) = c := rfl
            by_cases hlc : la < (c.toNat : Int)
            · have HX2 : Hid (X0 = ((rdNode f (path ++ (c :: cs)) ((told ++ done).map Ent.name) r1).bind fun y => (rdKids (rdNode f) (n - (k + 1)) path ((told ++ done).map Ent.name ++ y.2.1.map Ent.name) (c.toNat : Int) y.2.2).bind fun z => some (max y.1 z.1, y.2.1 ++ z.2.1, z.2.2)).bind fun z => some (max gg z.1, done ++ z.2.1, z.2.2)) := by show X0 = _; rw [HX1.out, if_pos ⟨by simp, hlc⟩]; rfl
              clear HX1
              have hps : (⟨path.toArray⟩ : ByteArray).size = path.length := by show path.toArray.size = _; simp
              have hadd : ¬ (9223372036854775807 < (⟨path.toArray⟩ : ByteArray).size + (⟨(c :: cs).toArray⟩ : ByteArray).size) := by rw [hps, hsz]; simp only [List.length_cons] at h256; omega
              have hba := ba_two path (c :: cs)
              have hnd := HN.out Rb Mk Bx Bs S r1 (told ++ done) (path ++ (c :: cs)) w2 HR2.out hS (by simp only [List.length_append, List.length_cons]; omega) (by simp only [List.length_append, List.length_cons] at h256 ⊢; omega)
              rw [← hba] at hnd
              clear hba
              go_wp2_with fail
              refine (must_yes _).mono ?_
              rintro e w' ⟨rfl, rfl⟩
              cases hy : rdNode f (path ++ (c :: cs)) ((told ++ done).map Ent.name) r1 with
              | none =>
                rw [hy] at hnd
                have HX3 : Hid (X0 = none) := by show X0 = none; rw [HX2.out, hy]; rfl
                clear hy
                go_wp2_with fail
                refine hnd.mono ?_
                rintro e w' ⟨g1, rfl⟩
                exact ⟨rfl, HF2.out.then g1, by rw [HX3.out]; rfl⟩
              | some y =>
                obtain ⟨g', es, r2⟩ := y
                rw [hy] at hnd
                have HX3 : Hid (kidsStep X0 f path told (n - (k + 1)) (max gg g') (done ++ es) (c.toNat : Int) r2) := by
                  show X0 = _
                  rw [HX2.out, hy]
                  simp only [Option.bind_some]
                  rw [show ((told ++ (done ++ es)).map Ent.name) = (told ++ done).map Ent.name ++ es.map Ent.name by simp]
                  cases rdKids (rdNode f) (n - (k + 1)) path ((told ++ done).map Ent.name ++ es.map Ent.name) (c.toNat : Int) r2 with
                  | none => rfl
                  | some z => simp [Nat.max_assoc]
                clear hy HX2
                go_wp2_with fail
                refine hnd.mono ?_
                rintro e w3 ⟨g1, rfl, g2⟩
                have HR3 : Hid (RS w3 Rb Mk Bx Bs S r2 (told ++ (done ++ es))) := by show RS _ _ _ _ _ _ _ _; rw [← List.append_assoc]; exact g2
                have HF3 : Hid (FrameF (GR Rb Mk Bs) w w3) := HF2.out.then g1
                clear hnd g1 g2
                go_wp2
                go_roundw
                case rel =>
                  refine ⟨k + 1, max gg g', done ++ es, (c.toNat : Int), r2, by omega, by go_num, rfl, ?_, HR3.out, HF3.out, HX3.out, by omega, by omega⟩
                  show Value.int .i64 (max (gg : Int) (g' : Int)) = Value.int .i64 ((max gg g' : Nat) : Int)
                  congr 1
                  omega
                case measure => simp [intOf]; omega
            · have HX2 : Hid (X0 = none) := by show X0 = none; rw [HX1.out, if_neg (fun h => hlc h.2)]; rfl
              have hlf : decide (la < (c.toNat : Int)) = false := decide_eq_false hlc
              go_wp2_with fail
              refine (must_no _).mono ?_
              rintro e w' ⟨rfl, rfl⟩
              exact ⟨rfl, HF2.out, by rw [HX2.out]; rfl⟩
      · have hkn : n - k = 0 := by omega
        have HX1 : Hid (X0 = some (gg, done, r)) := by
          show X0 = _
          rw [HGk.out, hkn, rdKids]
          simp
        go_wp2
        go_ret2
        refine ⟨HFk.out, ?_⟩
        rw [HX1.out]
        exact ⟨rfl, HRk.out⟩

theorem rdNode_succ (f : Nat) (path : Wd) (ks : List Wd) (bs : Wd) : rdNode (f + 1) path ks bs = if path.length ≤ 24 then (rdWeight bs).bind fun a => ((rdNum a.2).bind fun b => (rdEnts b.1 path ks [] b.2).bind fun c => some (b.1, c.1, c.2)).bind fun x =>
    ((rdNum x.2.2).bind fun d => (rdKids (rdNode f) d.1 path (ks ++ x.2.1.map Ent.name) (-1) d.2).bind fun e => some (d.1, e.1, e.2.1, e.2.2)).bind fun y => if (a.1 : Int) = max (maxW x.2.1) y.2.1 ∧ (path = [] ∨ 0 < x.1 ∨ 1 < y.1) then some (a.1, x.2.1 ++ y.2.2.1, y.2.2.2) else none else none := by
  rw [rdNode]
  split
  · congr 1
    funext a
    simp only [Option.bind_assoc, Option.bind_some]
  · rfl

set_option maxHeartbeats 4000000 in
set_option maxRecDepth 100000 in
theorem node_long (Rb Mk Bs : Nat) (X : Option (Nat × List Ent × Wd)) (ok : Nat × List Ent × Wd → Ending → World → Prop) (path : Wd) (w : World) (hX : X = none) (hp : ¬ path.length ≤ 24) :
    Calls Tryz.prog 214 #[.pointer (some ⟨Rb, 0, none⟩), .string ⟨path.toArray⟩] w (Ends (GR Rb Mk Bs) w X ok) := by
  have hps : (⟨path.toArray⟩ : ByteArray).size = path.length := by show path.toArray.size = _; simp
  have hle : decide ((path.length : Int) ≤ 24) = false := decide_eq_false (by omega)
  have HX : Hid (X = none) := hX
  clear hX
  go_enter Tryz.func214, Tryz.ntmps214
  go_wp2_with fail
  refine (must_no _).mono ?_
  rintro e w' ⟨rfl, rfl⟩
  exact ⟨rfl, FrameF.refl _ _, by rw [HX.out]⟩

set_option maxHeartbeats 4000000 in
set_option maxRecDepth 100000 in
theorem node_read : ∀ f, NodeR f := by
  intro f
  induction f with
  | zero =>
    intro Rb Mk Bx Bs S rest told path w h hS hf hpl
    exact node_long Rb Mk Bs _ _ path w rfl (by omega)
  | succ f ih =>
    intro Rb Mk Bx Bs S rest told path w h hS hf hpl
    by_cases hp : path.length ≤ 24
    · rw [rdNode_succ, if_pos hp]
      have HN : Hid (NodeR f) := ih
      have hps : (⟨path.toArray⟩ : ByteArray).size = path.length := by show path.toArray.size = _; simp
      have hle : (path.length : Int) ≤ 24 := by omega
      have ht := weight_any Rb S rest Mk (tellV Bx) w h.rd (by omega)
      have HR : Hid (RS w Rb Mk Bx Bs S rest told) := h
      clear h ih
      cases hx : rdWeight rest with
      | none =>
        rw [hx] at ht
        clear hx
        go_enter Tryz.func214, Tryz.ntmps214
        go_wp2_with fail
        refine (must_yes _).mono ?_
        rintro e w' ⟨rfl, rfl⟩
        go_wp2_with fail
        refine ht.mono ?_
        rintro e w' ⟨g1, rfl⟩
        exact ⟨rfl, g1.toGR, rfl⟩
      | some a =>
        obtain ⟨wg, r0⟩ := a
        rw [hx] at ht
        have hrl : r0.length ≤ rest.length := by rw [(rdWeight_some hx).1]; simp
        clear hx
        obtain ⟨X, hX⟩ : ∃ X, (some (wg, r0)).bind (fun a : Nat × Wd => ((rdNum a.2).bind fun b => (rdEnts b.1 path (told.map Ent.name) [] b.2).bind fun c => some (b.1, c.1, c.2)).bind fun x =>
          ((rdNum x.2.2).bind fun d => (rdKids (rdNode f) d.1 path (told.map Ent.name ++ x.2.1.map Ent.name) (-1) d.2).bind fun e => some (d.1, e.1, e.2.1, e.2.2)).bind fun y => if (a.1 : Int) = max (maxW x.2.1) y.2.1 ∧ (path = [] ∨ 0 < x.1 ∨ 1 < y.1) then some (a.1, x.2.1 ++ y.2.2.1, y.2.2.2) else none) = X := ⟨_, rfl⟩
        have HX : Hid (X = ((rdNum r0).bind fun b => (rdEnts b.1 path (told.map Ent.name) [] b.2).bind fun c => some (b.1, c.1, c.2)).bind fun x =>
          ((rdNum x.2.2).bind fun d => (rdKids (rdNode f) d.1 path (told.map Ent.name ++ x.2.1.map Ent.name) (-1) d.2).bind fun e => some (d.1, e.1, e.2.1, e.2.2)).bind fun y => if (wg : Int) = max (maxW x.2.1) y.2.1 ∧ (path = [] ∨ 0 < x.1 ∨ 1 < y.1) then some (wg, x.2.1 ++ y.2.2.1, y.2.2.2) else none) := by show X = _; rw [← hX]; rfl
        rw [hX]
        clear hX
        go_enter Tryz.func214, Tryz.ntmps214
        go_wp2_with fail
        refine (must_yes _).mono ?_
        rintro e w' ⟨rfl, rfl⟩
        go_wp2_with fail
        refine ht.mono ?_
        rintro e w1 ⟨g1, rfl, g2, g3⟩
        have HR1 : Hid (RS w1 Rb Mk Bx Bs S r0 told) := HR.out.turn g1 g2 hrl
        have HF1 : Hid (FrameF (GR Rb Mk Bs) w w1) := g1.toGR
        clear ht g1 g2 g3
        have hen := entries_read Rb Mk Bx Bs S r0 told path w1 HR1.out hS
        cases hx : (rdNum r0).bind fun a => (rdEnts a.1 path (told.map Ent.name) [] a.2).bind fun b => some (a.1, b.1, b.2) with
        | none =>
          rw [hx] at hen
          have HX1 : Hid (X = none) := by show X = none; rw [HX.out, hx]; rfl
          clear hx
          go_wp2_with fail
          refine hen.mono ?_
          rintro e w' ⟨g1, rfl⟩
          exact ⟨rfl, HF1.out.then g1, by rw [HX1.out]⟩
        | some x =>
          obtain ⟨nb, own, r1⟩ := x
          rw [hx] at hen
          have HX1 : Hid (X = ((rdNum r1).bind fun d => (rdKids (rdNode f) d.1 path ((told ++ own).map Ent.name) (-1) d.2).bind fun e => some (d.1, e.1, e.2.1, e.2.2)).bind fun y => if (wg : Int) = max (maxW own) y.2.1 ∧ (path = [] ∨ 0 < nb ∨ 1 < y.1) then some (wg, own ++ y.2.2.1, y.2.2.2) else none) := by show X = _; rw [HX.out, hx, List.map_append]; rfl
          clear hx HX
          go_wp2_with fail
          refine hen.mono ?_
          rintro e w2 ⟨g1, rfl, g2⟩
          have HR2 : Hid (RS w2 Rb Mk Bx Bs S r1 (told ++ own)) := g2
          have HF2 : Hid (FrameF (GR Rb Mk Bs) w w2) := HF1.out.then g1
          clear hen g1 g2 HR1 HF1
          have hch := children_read f HN.out Rb Mk Bx Bs S r1 (told ++ own) path w2 HR2.out hS hp (by omega)
          cases hy : (rdNum r1).bind fun a => (rdKids (rdNode f) a.1 path ((told ++ own).map Ent.name) (-1) a.2).bind fun b => some (a.1, b.1, b.2.1, b.2.2) with
          | none =>
            rw [hy] at hch
            have HX2 : Hid (X = none) := by show X = none; rw [HX1.out, hy]; rfl
            clear hy
            go_wp2_with fail
            refine hch.mono ?_
            rintro e w' ⟨g1, rfl⟩
            exact ⟨rfl, HF2.out.then g1, by rw [HX2.out]⟩
          | some y =>
            obtain ⟨nc, gb, below, r2⟩ := y
            rw [hy] at hch
            have HX2 : Hid (X = if (wg : Int) = max (maxW own) gb ∧ (path = [] ∨ 0 < nb ∨ 1 < nc) then some (wg, own ++ below, r2) else none) := by show X = _; rw [HX1.out, hy]; rfl
            clear hy HX1
            go_wp2_with fail
            refine hch.mono ?_
            rintro e w3 ⟨g1, rfl, g2⟩
            have HR3 : Hid (RS w3 Rb Mk Bx Bs S r2 (told ++ (own ++ below))) := by show RS _ _ _ _ _ _ _ _; rw [← List.append_assoc]; exact g2
            have HF3 : Hid (FrameF (GR Rb Mk Bs) w w3) := HF2.out.then g1
            clear hch g1 g2 HR2 HF2
            by_cases hgr : (wg : Int) = max (maxW own) gb
            · have hgb : ((wg : Int) == max (maxW own) (gb : Int)) = true := beq_iff_eq.2 hgr
              have HG : Hid ((wg : Int) = max (maxW own) gb) := hgr
              clear hgr
              go_wp2_with fail
              refine (must_yes _).mono ?_
              rintro e w' ⟨rfl, rfl⟩
              clear hgb
              cases path with
              | nil =>
                have HX3 : Hid (X = some (wg, own ++ below, r2)) := by show X = _; rw [HX2.out, if_pos ⟨HG.out, Or.inl rfl⟩]
                clear HX2
                go_wp2_with fail
                refine (must_yes _).mono ?_
                rintro e w' ⟨rfl, rfl⟩
                go_wp2
                go_ret
                refine ⟨HF3.out, ?_⟩
                rw [HX3.out]
                exact ⟨rfl, HR3.out⟩
              | cons c cs =>
                by_cases h1 : 0 < nb
                · have HX3 : Hid (X = some (wg, own ++ below, r2)) := by show X = _; rw [HX2.out, if_pos ⟨HG.out, Or.inr (Or.inl h1)⟩]
                  have h1i : (0 : Int) < (nb : Int) := by omega
                  clear HX2
                  go_wp2_with fail
                  refine (must_yes _).mono ?_
                  rintro e w' ⟨rfl, rfl⟩
                  go_wp2
                  go_ret
                  refine ⟨HF3.out, ?_⟩
                  rw [HX3.out]
                  exact ⟨rfl, HR3.out⟩
                · have h1i : decide ((0 : Int) < (nb : Int)) = false := decide_eq_false (by omega)
                  by_cases h2 : 1 < nc
                  · have HX3 : Hid (X = some (wg, own ++ below, r2)) := by show X = _; rw [HX2.out, if_pos ⟨HG.out, Or.inr (Or.inr h2)⟩]
                    have h2i : (1 : Int) < (nc : Int) := by omega
                    clear HX2
                    go_wp2_with fail
                    refine (must_yes _).mono ?_
                    rintro e w' ⟨rfl, rfl⟩
                    go_wp2
                    go_ret
                    refine ⟨HF3.out, ?_⟩
                    rw [HX3.out]
                    exact ⟨rfl, HR3.out⟩
                  · have HX3 : Hid (X = none) := by show X = _; rw [HX2.out, if_neg (fun h => by rcases h.2 with h | h | h; (· simp at h); (· exact h1 h); (· exact h2 h))]
                    have h2i : decide ((1 : Int) < (nc : Int)) = false := decide_eq_false (by omega)
                    clear HX2
                    go_wp2_with fail
                    refine (must_no _).mono ?_
                    rintro e w' ⟨rfl, rfl⟩
                    exact ⟨rfl, HF3.out, by rw [HX3.out]⟩
            · have hgb : ((wg : Int) == max (maxW own) (gb : Int)) = false := beq_eq_false_iff_ne.2 hgr
              have HX3 : Hid (X = none) := by show X = _; rw [HX2.out, if_neg (fun h => hgr h.1)]
              clear hgr HX2
              go_wp2_with fail
              refine (must_no _).mono ?_
              rintro e w' ⟨rfl, rfl⟩
              exact ⟨rfl, HF3.out, by rw [HX3.out]⟩
    · have hz : rdNode (f + 1) path (told.map Ent.name) rest = none := by rw [rdNode_succ, if_neg hp]
      exact node_long Rb Mk Bs _ _ path w hz hp

end Go.Proofs.YtocbogeoffeolaaGreatDoor

namespace Go.Proofs.YtocbogeoffeolaaGreatDoor
open Go.RowKit

def tpEnts : Nat → Wd → Option (List Ent × Wd)
  | 0, bs => some ([], bs)
  | n + 1, bs => (rdText bs).bind fun x => (rdText x.2).bind fun y => (rdWeight y.2).bind fun z => (rdNum z.2).bind fun u => (tpEnts n u.2).bind fun v => some (⟨x.1, false, y.1, z.1, u.1⟩ :: v.1, v.2)
def tpGone : Nat → Wd → Option (List Ent × Wd)
  | 0, bs => some ([], bs)
  | n + 1, bs => (rdText bs).bind fun x => (tpGone n x.2).bind fun v => some (⟨x.1, true, [], 0, 0⟩ :: v.1, v.2)
def tpKids (node : Wd → Option (List Ent × Wd)) : Nat → Wd → Option (List Ent × Wd)
  | 0, bs => some ([], bs)
  | n + 1, bs => (node bs).bind fun x => (tpKids node n x.2).bind fun y => some (x.1 ++ y.1, y.2)
/-- A node; how deep it is. -/
def tpTree : Nat → Nat → Wd → Option (List Ent × Wd)
  | 0, _, _ => none
  | f + 1, deep, bs => (rdText bs).bind fun a => (rdWeight a.2).bind fun b => (rdNum b.2).bind fun c => (tpEnts c.1 c.2).bind fun d => (rdNum d.2).bind fun e =>
      if 0 < e.1 ∧ 30 < deep then none else (tpKids (tpTree f (deep + 1)) e.1 e.2).bind fun g => some (d.1 ++ g.1, g.2)
def tpSeg (bs : Wd) : Option (Nat × List Ent × Wd) := (rdNum bs).bind fun a => (tpGone a.1 a.2).bind fun b => (tpTree 32 0 b.2).bind fun c => some (a.1, b.1 ++ c.1, c.2)

def packF (l : List Ent) : Nat := (l.map fun e => e.text.length).sum + 26
/-- As the document packs a list, whatever it says. -/
def packR (l : List Ent) : Wd := u8 ((sortN l).filter fun e => e.gone).length :: (((sortN l).filter fun e => e.gone).flatMap (fun e => pieceL e.name) ++ nodeL (packF l) ((sortN l).filter fun e => !e.gone) [] [])
def sound1 (l : List Ent) (i : Nat) (x : Ent) : Bool := nameB x.name && queryB x.text && (x.gone || x.text != []) && decide (x.weight ≤ 1000000) && (findI (l.take i) x.name).isNone
def soundTo (l : List Ent) (k : Nat) : Prop := ∀ i (h : i < l.length), i < k → sound1 l i l[i] = true
/-- What the document takes. -/
def unpackL (bs : Wd) : Option (List Ent) :=
  if 4000 < bs.length then none
  else match tpSeg bs with
    | none => none
    | some (n, l, r) => if r ≠ [] ∨ l.length = 0 ∨ 100 < n ∨ 30 < (l.length : Int) - n then none
      else if ∀ i, (h : i < l.length) → sound1 l i l[i] = true then (if packR l = bs then some l else none) else none

theorem tpEnts_of : ∀ (n : Nat) (path : Wd) (ks : List Wd) (last bs : Wd) (es : List Ent) (r : Wd), rdEnts n path ks last bs = some (es, r) → tpEnts n bs = some (es, r) := by
  intro n
  induction n with
  | zero => intro path ks last bs es r h; exact h
  | succ n ih =>
    intro path ks last bs es r h
    unfold rdEnts at h
    obtain ⟨x, hx, h⟩ := Option.bind_eq_some_iff.1 h
    obtain ⟨y, hy, h⟩ := Option.bind_eq_some_iff.1 h
    split at h
    · obtain ⟨z, hz, h9⟩ := Option.bind_eq_some_iff.1 h
      clear h
      unfold rdName at hx
      obtain ⟨x', hx', hx⟩ := Option.bind_eq_some_iff.1 hx
      split at hx
      · simp only [Option.some.injEq] at hx
        subst hx
        unfold rdEntry at hy
        obtain ⟨t, ht, hy⟩ := Option.bind_eq_some_iff.1 hy
        split at hy
        · obtain ⟨w, hw, hy⟩ := Option.bind_eq_some_iff.1 hy
          split at hy
          · obtain ⟨u, hu, hy⟩ := Option.bind_eq_some_iff.1 hy
            simp only [Option.some.injEq] at hy
            subst hy
            unfold tpEnts
            rw [hx', Option.bind_some, ht, Option.bind_some, hw, Option.bind_some, hu, Option.bind_some, ih _ _ _ _ _ _ hz]
            exact h9
          · simp at hy
        · simp at hy
      · simp at hx
    · simp at h
theorem tpGone_of : ∀ (n : Nat) (ks : List Wd) (last bs : Wd) (es : List Ent) (r : Wd), rdGone n ks last bs = some (es, r) → tpGone n bs = some (es, r) := by
  intro n
  induction n with
  | zero => intro ks last bs es r h; exact h
  | succ n ih =>
    intro ks last bs es r h
    unfold rdGone at h
    obtain ⟨x, hx, h⟩ := Option.bind_eq_some_iff.1 h
    obtain ⟨z, hz, h⟩ := Option.bind_eq_some_iff.1 h
    unfold rdName at hx
    obtain ⟨x', hx', hx⟩ := Option.bind_eq_some_iff.1 hx
    split at hx
    · simp only [Option.some.injEq] at hx
      subst hx
      unfold tpGone
      rw [hx', Option.bind_some, ih _ _ _ _ _ hz]
      exact h
    · simp at hx
def TpOk (f : Nat) : Prop := ∀ (path : Wd) (ks : List Wd) (label bs : Wd) (g : Nat) (es : List Ent) (r : Wd), label.length < 256 → rdNode f path ks bs = some (g, es, r) → ∀ f' deep, deep ≤ path.length → 32 ≤ f' + deep → tpTree f' deep (pieceL label ++ bs) = some (es, r)
theorem tpKids_of {f : Nat} (hN : TpOk f) (f' deep : Nat) (hf : 31 ≤ f' + deep) : ∀ (n : Nat) (path : Wd) (ks : List Wd) (last : Int) (bs : Wd) (g : Nat) (es : List Ent) (r : Wd), deep ≤ path.length → rdKids (rdNode f) n path ks last bs = some (g, es, r) → tpKids (tpTree f' (deep + 1)) n bs = some (es, r) := by
  intro n
  induction n with
  | zero =>
    intro path ks last bs g es r _ h
    simp only [rdKids, Option.some.injEq, Prod.mk.injEq] at h
    obtain ⟨rfl, rfl, rfl⟩ := h
    rfl
  | succ n ih =>
    intro path ks last bs g es r hd h
    unfold rdKids at h
    obtain ⟨⟨t, rt⟩, hx, h⟩ := Option.bind_eq_some_iff.1 h
    split at h
    · rename_i hc
      obtain ⟨⟨gy, ey, ry⟩, hy, h⟩ := Option.bind_eq_some_iff.1 h
      obtain ⟨⟨gz, ez, rz⟩, hz, h⟩ := Option.bind_eq_some_iff.1 h
      simp only [Option.some.injEq, Prod.mk.injEq] at h hc hy hz
      obtain ⟨rfl, rfl, rfl⟩ := h
      have ht := rdText_some hx
      have hl : 0 < t.length := List.length_pos_iff.2 hc.1
      have h1 := hN (path ++ t) ks t rt gy ey ry ht.2 hy f' (deep + 1) (by rw [List.length_append]; omega) (by omega)
      unfold tpKids
      rw [ht.1, h1, Option.bind_some, ih path _ _ _ _ _ _ hd hz]
      rfl
    · simp at h
theorem tpTree_of : ∀ f, TpOk f := by
  intro f
  induction f with
  | zero => intro path ks label bs g es r _ h; simp [rdNode] at h
  | succ f ih =>
    intro path ks label bs g es r hl h f' deep hd hf
    unfold rdNode at h
    split at h
    · rename_i hp
      obtain ⟨⟨a, ra⟩, ha, h⟩ := Option.bind_eq_some_iff.1 h
      obtain ⟨⟨b, rb⟩, hb, h⟩ := Option.bind_eq_some_iff.1 h
      obtain ⟨⟨own, rc⟩, hc, h⟩ := Option.bind_eq_some_iff.1 h
      obtain ⟨⟨d, rd⟩, hd', h⟩ := Option.bind_eq_some_iff.1 h
      obtain ⟨⟨gk, ek, re⟩, he, h⟩ := Option.bind_eq_some_iff.1 h
      split at h
      · simp only [Option.some.injEq, Prod.mk.injEq] at h hb hc hd' he
        obtain ⟨rfl, rfl, rfl⟩ := h
        cases f' with
        | zero => omega
        | succ f' =>
          have hk := tpKids_of ih f' deep (by omega) d path _ _ _ _ _ _ hd he
          have ho := tpEnts_of _ _ _ _ _ _ _ hc
          unfold tpTree
          rw [rdText_piece label bs hl, Option.bind_some, ha, Option.bind_some, hb, Option.bind_some, ho, Option.bind_some, hd', Option.bind_some, if_neg (by omega), hk]
          rfl
      · simp at h
    · simp at h

/-- Of what is read: each entry is one that bytes say. -/
def rawE (e : Ent) : Prop := e.gone = false ∧ 0 ≤ e.weight ∧ 0 ≤ e.tags ∧ e.tags ≤ 255
theorem tpEnts_raw : ∀ (n : Nat) (bs : Wd) (es : List Ent) (r : Wd), tpEnts n bs = some (es, r) → ∀ e ∈ es, rawE e := by
  intro n
  induction n with
  | zero =>
    intro bs es r h
    simp only [tpEnts, Option.some.injEq, Prod.mk.injEq] at h
    obtain ⟨rfl, rfl⟩ := h
    simp
  | succ n ih =>
    intro bs es r h
    unfold tpEnts at h
    obtain ⟨x, hx, h⟩ := Option.bind_eq_some_iff.1 h
    obtain ⟨y, hy, h⟩ := Option.bind_eq_some_iff.1 h
    obtain ⟨z, hz, h⟩ := Option.bind_eq_some_iff.1 h
    obtain ⟨u, hu, h⟩ := Option.bind_eq_some_iff.1 h
    obtain ⟨v, hv, h⟩ := Option.bind_eq_some_iff.1 h
    simp only [Option.some.injEq, Prod.mk.injEq] at h
    obtain ⟨rfl, rfl⟩ := h
    intro e he
    simp only [List.mem_cons] at he
    rcases he with rfl | he
    · have := (rdNum_some hu).2
      exact ⟨rfl, by simp, by simp, by simp; omega⟩
    · exact ih _ _ _ hv e he
theorem tpGone_raw : ∀ (n : Nat) (bs : Wd) (es : List Ent) (r : Wd), tpGone n bs = some (es, r) → es.length = n ∧ ∀ e ∈ es, e = ⟨e.name, true, [], 0, 0⟩ := by
  intro n
  induction n with
  | zero =>
    intro bs es r h
    simp only [tpGone, Option.some.injEq, Prod.mk.injEq] at h
    obtain ⟨rfl, rfl⟩ := h
    simp
  | succ n ih =>
    intro bs es r h
    unfold tpGone at h
    obtain ⟨x, hx, h⟩ := Option.bind_eq_some_iff.1 h
    obtain ⟨v, hv, h⟩ := Option.bind_eq_some_iff.1 h
    simp only [Option.some.injEq, Prod.mk.injEq] at h
    obtain ⟨rfl, rfl⟩ := h
    obtain ⟨h1, h2⟩ := ih _ _ _ hv
    refine ⟨by simp [h1], fun e he => ?_⟩
    simp only [List.mem_cons] at he
    rcases he with rfl | he
    · rfl
    · exact h2 e he
theorem tpKids_raw {node : Wd → Option (List Ent × Wd)} (hN : ∀ bs es r, node bs = some (es, r) → ∀ e ∈ es, rawE e) : ∀ (n : Nat) (bs : Wd) (es : List Ent) (r : Wd), tpKids node n bs = some (es, r) → ∀ e ∈ es, rawE e := by
  intro n
  induction n with
  | zero =>
    intro bs es r h
    simp only [tpKids, Option.some.injEq, Prod.mk.injEq] at h
    obtain ⟨rfl, rfl⟩ := h
    simp
  | succ n ih =>
    intro bs es r h
    unfold tpKids at h
    obtain ⟨x, hx, h⟩ := Option.bind_eq_some_iff.1 h
    obtain ⟨v, hv, h⟩ := Option.bind_eq_some_iff.1 h
    simp only [Option.some.injEq, Prod.mk.injEq] at h
    obtain ⟨rfl, rfl⟩ := h
    intro e he
    rw [List.mem_append] at he
    rcases he with he | he
    · exact hN _ _ _ hx e he
    · exact ih _ _ _ hv e he
theorem tpTree_raw : ∀ (f deep : Nat) (bs : Wd) (es : List Ent) (r : Wd), tpTree f deep bs = some (es, r) → ∀ e ∈ es, rawE e := by
  intro f
  induction f with
  | zero => intro deep bs es r h; simp [tpTree] at h
  | succ f ih =>
    intro deep bs es r h
    unfold tpTree at h
    obtain ⟨a, ha, h⟩ := Option.bind_eq_some_iff.1 h
    obtain ⟨b, hb, h⟩ := Option.bind_eq_some_iff.1 h
    obtain ⟨c, hc, h⟩ := Option.bind_eq_some_iff.1 h
    obtain ⟨d, hd, h⟩ := Option.bind_eq_some_iff.1 h
    obtain ⟨e, he, h⟩ := Option.bind_eq_some_iff.1 h
    split at h
    · simp at h
    · obtain ⟨g, hg, h⟩ := Option.bind_eq_some_iff.1 h
      simp only [Option.some.injEq, Prod.mk.injEq] at h
      obtain ⟨rfl, rfl⟩ := h
      intro x hx
      rw [List.mem_append] at hx
      rcases hx with hx | hx
      · exact tpEnts_raw _ _ _ _ hd x hx
      · exact tpKids_raw (ih (deep + 1)) _ _ _ _ hg x hx

/-- Deep enough is deep enough. -/
theorem body_fuel1 : ∀ (f : Nat) (p : Wd) (G : List Ent), (∀ e ∈ G, (keyE e).length ≤ f + p.length) → bodyC (f + 1) p G = bodyC (f + 2) p G := by
  intro f
  induction f with
  | zero =>
    intro p G h
    have hh : heads G p = [] := by
      rw [List.eq_nil_iff_forall_not_mem]
      intro c hc
      obtain ⟨e, he, hp⟩ := heads_iff.1 hc
      have h1 := h e he
      have h2 := hp.length_le
      simp at h2; omega
    unfold bodyC
    rw [hh]
    rfl
  | succ f ih =>
    intro p G h
    rw [bodyC, bodyC]
    congr 4
    refine flatMap_same fun c hc => ?_
    have hne := heads_mem hc
    rw [← grp_eq] at hne
    have hpre := stem_pre (l := G) (p := p ++ [c]) (by rw [← grp_eq]; exact hne)
    rw [← grp_eq] at hpre
    have := hpre.length_le
    rw [ih _ _ (fun e he => ?_)]
    have h1 := h e (grp_mem.1 he).1
    simp at this
    omega
theorem body_fuel (f k : Nat) (p : Wd) (G : List Ent) (h : ∀ e ∈ G, (keyE e).length ≤ f + p.length) : bodyC (f + 1 + k) p G = bodyC (f + 1) p G := by
  induction k with
  | zero => rfl
  | succ k ih =>
    rw [← ih, show f + 1 + (k + 1) = (f + k) + 2 by omega, show f + 1 + k = (f + k) + 1 by omega]
    exact (body_fuel1 (f + k) p G (fun e he => by have := h e he; omega)).symm
theorem atP_nil (l : List Ent) : atP l [] = l := by
  unfold atP
  rw [List.filter_eq_self]
  intro e _
  exact (begB_iff _ _).2 List.nil_prefix
/-- Of a segment that may be, the document's packing is the same. -/
theorem pack_eq {l : List Ent} (h : ∀ e ∈ l, e.gone = false → (keyE e).length ≤ 24) : packR l = packC l := by
  unfold packR packC
  rw [node_body, atP_nil, show packF l = 25 + 1 + (l.map fun e => e.text.length).sum by unfold packF; omega, body_fuel 25 _ [] _ (fun e he => ?_)]
  · rfl
  · have hm := List.mem_filter.1 he
    have := h e (sortN_mem.1 hm.1) (by simpa using hm.2)
    simp; omega
theorem find_none {l : List Ent} {x : Wd} (h : findI l x = none) : x ∉ l.map Ent.name := by
  unfold findI at h
  rw [List.findIdx?_eq_none_iff] at h
  intro hm
  obtain ⟨e, he, hx⟩ := List.mem_map.1 hm
  have := h e he
  rw [hx] at this
  simp at this
theorem find_none' {l : List Ent} {x : Wd} (h : x ∉ l.map Ent.name) : findI l x = none := by
  unfold findI
  rw [List.findIdx?_eq_none_iff]
  intro e he
  rw [beq_eq_false_iff_ne]
  intro hx
  exact h (List.mem_map.2 ⟨e, he, hx⟩)
theorem nodup_of_take {l : List Ent} (h : ∀ i (h : i < l.length), l[i].name ∉ (l.take i).map Ent.name) : (l.map Ent.name).Nodup := by
  rw [List.Nodup, List.pairwise_iff_getElem]
  intro i j hi hj hij e
  simp only [List.length_map] at hi hj
  rw [List.getElem_map, List.getElem_map] at e
  refine h j hj (List.mem_map.2 ⟨l[i], ?_, e⟩)
  rw [List.mem_iff_getElem]
  exact ⟨i, by simp; omega, by simp⟩
theorem take_of_nodup {l : List Ent} (h : (l.map Ent.name).Nodup) (i : Nat) (hi : i < l.length) : l[i].name ∉ (l.take i).map Ent.name := by
  intro hm
  rw [List.Nodup, List.pairwise_iff_getElem] at h
  obtain ⟨e, he, hn⟩ := List.mem_map.1 hm
  obtain ⟨j, hj, rfl⟩ := List.mem_iff_getElem.1 he
  simp only [List.length_take] at hj
  rw [List.getElem_take] at hn
  have := h j i (by simp; omega) (by simpa using hi) (by omega)
  rw [List.getElem_map, List.getElem_map] at this
  exact this hn
theorem okG_key {e : Ent} (h : okG e) (hg : e.gone = false) : (keyE e).length ≤ 24 := by
  rcases h with h | h
  · exact (key_len h).1
  · rw [h.1] at hg; simp at hg
theorem okseg_key {l : List Ent} (h : OkSeg l) : ∀ e ∈ l, e.gone = false → (keyE e).length ≤ 24 := fun e he hg => okG_key (h.each e he) hg
/-- THE TWO READINGS ARE ONE. -/
theorem unpack_eq (bs : Wd) : unpackL bs = if 4000 < bs.length then none else (rdSeg bs).map fun x => x.1 ++ x.2 := by
  unfold unpackL
  by_cases h4 : 4000 < bs.length
  · rw [if_pos h4, if_pos h4]
  · rw [if_neg h4, if_neg h4]
    have hone : ∀ gs es, rdSeg bs = some (gs, es) → ∃ n, tpSeg bs = some (n, gs ++ es, []) ∧ n = gs.length := by
      intro gs es h
      unfold rdSeg at h
      obtain ⟨⟨n, ra⟩, ha, h⟩ := Option.bind_eq_some_iff.1 h
      obtain ⟨⟨gs', rb⟩, hb, h⟩ := Option.bind_eq_some_iff.1 h
      obtain ⟨⟨t, rc⟩, hc, h⟩ := Option.bind_eq_some_iff.1 h
      split at h
      · rename_i ht
        obtain ⟨⟨g, es', rd⟩, hd, h⟩ := Option.bind_eq_some_iff.1 h
        split at h
        · rename_i hck
          simp only [Option.some.injEq, Prod.mk.injEq] at h hck ht hb hc hd
          obtain ⟨rfl, rfl⟩ := h
          subst ht
          have h1 := tpGone_of _ _ _ _ _ _ hb
          have h2 := tpTree_of 26 [] _ [] rc g es' rd (by simp) hd 32 0 (by simp) (by omega)
          rw [← (rdText_some hc).1] at h2
          refine ⟨n, ?_, ((rdGone_some _ _ _ _ _ _ hb).1).symm⟩
          unfold tpSeg
          rw [ha, Option.bind_some, h1, Option.bind_some, h2, Option.bind_some, hck.1]
        · simp at h
      · simp at h
    cases hr : rdSeg bs with
    | some x =>
      obtain ⟨gs, es⟩ := x
      obtain ⟨n, h1, h2⟩ := hone gs es hr
      obtain ⟨hok, hbs, hg, he⟩ := rdSeg_some hr
      have hp : packR (gs ++ es) = bs := by rw [pack_eq (okseg_key hok), ← hbs]
      have hlen := List.length_pos_iff.2 hok.some
      have f1 : gs.filter (fun e => e.gone) = gs := List.filter_eq_self.2 hg
      have f2 : es.filter (fun e => e.gone) = [] := List.filter_eq_nil_iff.2 (fun e h => by rw [he e h]; simp)
      have f3 : gs.filter (fun e => !e.gone) = [] := List.filter_eq_nil_iff.2 (fun e h => by rw [hg e h]; simp)
      have f4 : es.filter (fun e => !e.gone) = es := List.filter_eq_self.2 (fun e h => by rw [he e h]; rfl)
      have hgl := hok.gone
      have hel := hok.there
      rw [List.filter_append, f1, f2, List.append_nil] at hgl
      rw [List.filter_append, f3, f4, List.nil_append] at hel
      rw [h1]
      simp only [Option.map_some]
      rw [if_neg, if_pos, if_pos hp]
      · intro i hi
        have hm := List.getElem_mem hi
        have hf := find_none' (take_of_nodup hok.nodup i hi)
        unfold sound1
        rw [hf]
        rcases hok.each _ hm with hk | hk
        · simp [hk.2.1, hk.2.2.1, hk.2.2.2.1, hk.2.2.2.2.2.1]
        · have hk1 := hk.1
          have e1 : (gs ++ es)[i].gone = true := by rw [hk1]
          have e2 : (gs ++ es)[i].text = [] := by rw [hk1]
          have e3 : (gs ++ es)[i].weight = 0 := by rw [hk1]
          rw [e1, e2, e3, hk.2]
          rfl
      · rw [List.length_append] at hlen ⊢
        intro hh
        rcases hh with hh | hh | hh | hh
        · exact hh rfl
        · omega
        · omega
        · omega
    | none =>
      simp only [Option.map_none]
      cases ht : tpSeg bs with
      | none => rfl
      | some y =>
        obtain ⟨n, l, r⟩ := y
        simp only
        split
        · rfl
        · rename_i hc
          split
          · rename_i hs
            split
            · rename_i hp
              exfalso
              unfold tpSeg at ht
              obtain ⟨a, ha, ht⟩ := Option.bind_eq_some_iff.1 ht
              obtain ⟨b, hb, ht⟩ := Option.bind_eq_some_iff.1 ht
              obtain ⟨c, hc', ht⟩ := Option.bind_eq_some_iff.1 ht
              simp only [Option.some.injEq, Prod.mk.injEq] at ht
              obtain ⟨h1, h2, h3⟩ := ht
              obtain ⟨g1, g2⟩ := tpGone_raw _ _ _ _ hb
              have e1 := tpTree_raw _ _ _ _ _ hc'
              have hok : OkSeg l := by
                have hg : ∀ e ∈ b.1, e.gone = true := fun e he => by rw [g2 e he]
                have he : ∀ e ∈ c.1, e.gone = false := fun e he => (e1 e he).1
                have f1 : b.1.filter (fun e => e.gone) = b.1 := List.filter_eq_self.2 hg
                have f2 : c.1.filter (fun e => e.gone) = [] := List.filter_eq_nil_iff.2 (fun e h => by rw [he e h]; simp)
                have f3 : b.1.filter (fun e => !e.gone) = [] := List.filter_eq_nil_iff.2 (fun e h => by rw [hg e h]; simp)
                have f4 : c.1.filter (fun e => !e.gone) = c.1 := List.filter_eq_self.2 (fun e h => by rw [he e h]; rfl)
                have hll := congrArg List.length h2
                rw [List.length_append] at hll
                refine ⟨fun e hm => ?_, nodup_of_take (fun i hi => ?_), fun e => ?_, ?_, ?_⟩
                · obtain ⟨i, hi, rfl⟩ := List.mem_iff_getElem.1 hm
                  have hq := hs i hi
                  unfold sound1 at hq
                  simp only [Bool.and_eq_true, decide_eq_true_eq, Bool.or_eq_true, bne_iff_ne] at hq
                  obtain ⟨⟨⟨⟨q1, q2⟩, q3⟩, q4⟩, q5⟩ := hq
                  have hm2 : l[i] ∈ b.1 ++ c.1 := by rw [h2]; exact hm
                  rw [List.mem_append] at hm2
                  rcases hm2 with hm | hm
                  · exact Or.inr ⟨g2 _ hm, q1⟩
                  · have hx := e1 _ hm
                    refine Or.inl ⟨hx.1, q1, q2, ?_, hx.2.1, q4, hx.2.2.1, hx.2.2.2⟩
                    rcases q3 with q3 | q3
                    · rw [hx.1] at q3; simp at q3
                    · exact q3
                · have hq := hs i hi
                  unfold sound1 at hq
                  simp only [Bool.and_eq_true] at hq
                  exact find_none (by have := hq.2; simpa using this)
                · exact hc (Or.inr (Or.inl (by rw [e]; rfl)))
                · rw [← h2, List.filter_append, f1, f2, List.append_nil]; omega
                · rw [← h2, List.filter_append, f3, f4, List.nil_append]; omega
              obtain ⟨gs, es, hrr, _⟩ := rdSeg_pack hok
              rw [← pack_eq (okseg_key hok), hp, hr] at hrr
              simp at hrr
            · rfl
          · rfl

end Go.Proofs.YtocbogeoffeolaaGreatDoor

namespace Go.Proofs.YtocbogeoffeolaaGreatDoor
open Go.RowKit Go.Maps

theorem assert_dmg (w : World) : (Instr.typeAssert (.iface 264 (.agg #[])) 20 264 true).run Tryz.prog w = .ok (.tuple #[.agg #[], .bool true]) w := by kernel_rfl

set_option maxRecDepth 100000 in
theorem catch_damage (b : Nat) (w : World) (b0 : Bool) (hb : w.heap[b]? = some (.cells #[.bool b0] 4 (0, 0))) :
    CallsD Tryz.prog 210 #[.pointer (some ⟨b, 0, none⟩)] (.panicking [dmgE]) w fun e u' w' =>
      e = .returned (.tuple #[]) ∧ u' = .panicking [{ v := .iface 264 (.agg #[]), recovered := true }] ∧ w' = (w.alloc (.cells #[] 264)).setCell ⟨b, 0, none⟩ (.bool false) := by
  have hta := assert_dmg
  have hb2 : (w.alloc (.cells #[] 264)).heap[b]? = some (.cells #[.bool b0] 4 (0, 0)) := by rw [Below.heap_alloc _ _ _ (heap_lt hb)]; exact hb
  have hc2 : (w.alloc (.cells #[] 264)).cell? ⟨b, 0, none⟩ = some (.bool b0) := by rw [cell_of_heap hb2]; rfl
  have hz2 : (w.alloc (.cells #[] 264)).frozen? ⟨b, 0, none⟩ = false := frozen_of_heap hb2 0
  clear hb hb2
  refine callsD_of_wpS Tryz.func210 rfl fun c₀ cs hu => ?_
  apply wpS_seq
  apply wpS_region
  simp [wpOpsS, go_sem, recoverD, hu, Tryz.ntmps210, Exit.thenS, dmgE]
  refine wpS_of_wp ?_
  change Code.wp _ _ _ { tmps := #[.pointer (some ⟨b, 0, none⟩), .iface 264 (.agg #[]), undef, undef, .iface 264 (.agg #[]), undef, undef, undef, undef, undef, undef, undef, undef, undef, undef], defers := [] } _
  go_wp2
  cases c₀
  simp_all [bodyPostS, results, Tryz.results210]

set_option maxRecDepth 100000 in
theorem catch_none (p : Addr) (w : World) :
    CallsD Tryz.prog 210 #[.pointer (some p)] .returning w fun e u' w' => e = .returned (.tuple #[]) ∧ u' = .returning ∧ w' = w := by
  refine callsD_of_wpS Tryz.func210 rfl fun c₀ cs hu => ?_
  apply wpS_seq
  apply wpS_region
  simp [wpOpsS, go_sem, recoverD, hu, Tryz.ntmps210, Exit.thenS]
  refine wpS_of_wp ?_
  change Code.wp _ _ _ { tmps := #[.pointer (some p), .nilIface, undef, undef, .nilIface, undef, undef, undef, undef, undef, undef, undef, undef, undef, undef], defers := [] } _
  go_wp2
  cases c₀
  simp_all [bodyPostS, results, Tryz.results210]

theorem rdSeg_eq (bs : Wd) : rdSeg bs = ((rdNum bs).bind fun a => (rdGone a.1 [] [] a.2).bind fun b => some (a.1, b.1, b.2)).bind fun x => (rdText x.2.2).bind fun c => if c.1 = [] then (rdNode 26 [] (x.2.1.map Ent.name) c.2).bind fun d =>
    if d.2.2 = [] ∧ 0 < x.2.1.length + d.2.1.length ∧ x.1 ≤ 100 ∧ d.2.1.length ≤ 30 then some (x.2.1, d.2.1) else none else none := by
  unfold rdSeg
  simp only [Option.bind_assoc, Option.bind_some]

set_option maxHeartbeats 4000000 in
set_option maxRecDepth 100000 in
theorem segment_read (Rb Mk Bx Bs : Nat) (S : ByteArray) (rest : Wd) (w : World) (h : RS w Rb Mk Bx Bs S rest []) (hS : S.size ≤ 1099511627775) :
    Calls Tryz.prog 159 #[.pointer (some ⟨Rb, 0, none⟩)] w (Ends (GR Rb Mk Bs) w (rdSeg rest) fun x e w' => e = .returned (.tuple #[]) ∧ ∃ r, RS w' Rb Mk Bx Bs S r (x.1 ++ x.2)) := by
  have hgo := gone_read Rb Mk Bx Bs S rest w h hS
  obtain ⟨X, hX⟩ : ∃ X, rdSeg rest = X := ⟨_, rfl⟩
  have HX : Hid (X = ((rdNum rest).bind fun a => (rdGone a.1 [] [] a.2).bind fun b => some (a.1, b.1, b.2)).bind fun x => (rdText x.2.2).bind fun c => if c.1 = [] then (rdNode 26 [] (x.2.1.map Ent.name) c.2).bind fun d =>
    if d.2.2 = [] ∧ 0 < x.2.1.length + d.2.1.length ∧ x.1 ≤ 100 ∧ d.2.1.length ≤ 30 then some (x.2.1, d.2.1) else none else none) := by show X = _; rw [← hX, rdSeg_eq]
  have HR : Hid (RS w Rb Mk Bx Bs S rest []) := h
  rw [hX]
  clear h hX
  cases hx : (rdNum rest).bind fun a => (rdGone a.1 [] [] a.2).bind fun b => some (a.1, b.1, b.2) with
  | none =>
    rw [hx] at hgo
    have HX1 : Hid (X = none) := by show X = none; rw [HX.out, hx]; rfl
    clear hx
    go_enter Tryz.func159, Tryz.ntmps159
    go_wp2_with fail
    refine hgo.mono ?_
    rintro e w' ⟨g1, rfl⟩
    exact ⟨rfl, g1, by rw [HX1.out]⟩
  | some x =>
    obtain ⟨ng, gs, r0⟩ := x
    rw [hx] at hgo
    have hgl : gs.length = ng := by
      obtain ⟨a, _, ha⟩ := Option.bind_eq_some_iff.1 hx
      obtain ⟨b, hb, he⟩ := Option.bind_eq_some_iff.1 ha
      simp only [Option.some.injEq, Prod.mk.injEq] at he
      have := (rdGone_some _ _ _ _ _ _ hb).1
      rw [← he.1, ← he.2.1, this]
    have hn255 : ng ≤ 255 := by
      obtain ⟨a, ha0, ha⟩ := Option.bind_eq_some_iff.1 hx
      obtain ⟨b, hb, he⟩ := Option.bind_eq_some_iff.1 ha
      simp only [Option.some.injEq, Prod.mk.injEq] at he
      have := (rdNum_some ha0).2
      omega
    have HX1 : Hid (X = (rdText r0).bind fun c => if c.1 = [] then (rdNode 26 [] (gs.map Ent.name) c.2).bind fun d =>
      if d.2.2 = [] ∧ 0 < gs.length + d.2.1.length ∧ ng ≤ 100 ∧ d.2.1.length ≤ 30 then some (gs, d.2.1) else none else none) := by show X = _; rw [HX.out, hx]; rfl
    clear hx HX
    go_enter Tryz.func159, Tryz.ntmps159
    go_wp2_with fail
    refine hgo.mono ?_
    rintro e w1 ⟨g1, rfl, g2⟩
    have HR1 : Hid (RS w1 Rb Mk Bx Bs S r0 gs) := g2
    have HF1 : Hid (FrameF (GR Rb Mk Bs) w w1) := g1
    clear hgo g1 g2
    have htx := text_any Rb S r0 Mk (tellV Bx) w1 HR1.out.rd (by omega)
    cases hx : rdText r0 with
    | none =>
      rw [hx] at htx
      have HX2 : Hid (X = none) := by show X = none; rw [HX1.out, hx]; rfl
      clear hx
      go_wp2_with fail
      refine htx.mono ?_
      rintro e w' ⟨g1, rfl⟩
      exact ⟨rfl, HF1.out.then g1.toGR, by rw [HX2.out]⟩
    | some x =>
      obtain ⟨lb, r1⟩ := x
      rw [hx] at htx
      have hlen : r1.length ≤ r0.length := by rw [(rdText_some hx).1]; simp
      have HX2 : Hid (X = if lb = [] then (rdNode 26 [] (gs.map Ent.name) r1).bind fun d =>
        if d.2.2 = [] ∧ 0 < gs.length + d.2.1.length ∧ ng ≤ 100 ∧ d.2.1.length ≤ 30 then some (gs, d.2.1) else none else none) := by show X = _; rw [HX1.out, hx]; rfl
      clear hx HX1
      go_wp2_with fail
      refine htx.mono ?_
      rintro e w2 ⟨g1, rfl, g2, g3⟩
      have HR2 : Hid (RS w2 Rb Mk Bx Bs S r1 gs) := HR1.out.turn g1 g2 hlen
      have HF2 : Hid (FrameF (GR Rb Mk Bs) w w2) := HF1.out.then g1.toGR
      clear htx g1 g2 g3
      cases lb with
      | cons c cs =>
        have HX3 : Hid (X = none) := by show X = none; rw [HX2.out, if_neg (by simp)]
        go_wp2_with fail
        refine (must_no _).mono ?_
        rintro e w' ⟨rfl, rfl⟩
        exact ⟨rfl, HF2.out, by rw [HX3.out]⟩
      | nil =>
        have HX3 : Hid (X = (rdNode 26 [] (gs.map Ent.name) r1).bind fun d => if d.2.2 = [] ∧ 0 < gs.length + d.2.1.length ∧ ng ≤ 100 ∧ d.2.1.length ≤ 30 then some (gs, d.2.1) else none) := by show X = _; rw [HX2.out, if_pos rfl]
        clear HX2
        go_wp2_with fail
        refine (must_yes _).mono ?_
        rintro e w' ⟨rfl, rfl⟩
        have hnd := node_read 26 Rb Mk Bx Bs S r1 gs [] w2 HR2.out hS (by simp) (by simp)
        cases hy : rdNode 26 [] (gs.map Ent.name) r1 with
        | none =>
          rw [hy] at hnd
          have HX4 : Hid (X = none) := by show X = none; rw [HX3.out, hy]; rfl
          clear hy
          go_wp2_with fail
          refine hnd.mono ?_
          rintro e w' ⟨g1, rfl⟩
          exact ⟨rfl, HF2.out.then g1, by rw [HX4.out]⟩
        | some y =>
          obtain ⟨wg, es, r2⟩ := y
          rw [hy] at hnd
          have HX4 : Hid (X = if r2 = [] ∧ 0 < gs.length + es.length ∧ ng ≤ 100 ∧ es.length ≤ 30 then some (gs, es) else none) := by show X = _; rw [HX3.out, hy]; rfl
          clear hy HX3
          go_wp2_with fail
          refine hnd.mono ?_
          rintro e w3 ⟨g1, rfl, g2⟩
          have HR3 : Hid (RS w3 Rb Mk Bx Bs S r2 (gs ++ es)) := g2
          have HF3 : Hid (FrameF (GR Rb Mk Bs) w w3) := HF2.out.then g1
          clear hnd g1 g2 HR1 HF1
          obtain ⟨p, hp1, hp2, hp3⟩ := HR3.out.rd
          have c0 : w3.cell? ⟨Rb, 0, none⟩ = some (.string S) := by rw [cell_of_heap hp1]; rfl
          have c1 : w3.cell? ⟨Rb, 1, none⟩ = some (.int .i64 p) := by rw [cell_of_heap hp1]; rfl
          have c2 : w3.cell? ⟨Rb, 2, none⟩ = some (.map (some Mk)) := by rw [cell_of_heap hp1]; rfl
          have hr2 : r2 = [] ↔ p = S.size := by
            rw [← hp3, List.drop_eq_nil_iff]
            simp
            omega
          clear hp1 hp3
          by_cases hr : r2 = []
          · have hpS : ((p : Int) == (S.size : Int)) = true := beq_iff_eq.2 (by rw [hr2.1 hr])
            clear hr2
            have hlnM := fun ty : TypeId => MapL.len (MapL.stay HR3.out.kn rfl : MapL Tryz.prog 9 w3.drew Mk ((gs ++ es).map knP)) Tryz.underlying214 ty
            have hNl : ((gs ++ es).map knP).length = gs.length + es.length := by simp
            rw [hNl] at hlnM
            obtain ⟨N, hN⟩ : ∃ N : Nat, N = gs.length + es.length := ⟨_, rfl⟩
            rw [← hN] at hlnM
            have hNS : N ≤ S.size := by have := HR3.out.few; rw [List.length_append] at this; omega
            have HN : Hid (N = gs.length + es.length) := hN
            have HGL : Hid (gs.length = ng) := hgl
            have HRr : Hid (r2 = []) := hr
            have hnN : ng ≤ N := by omega
            have HFd : Hid (FrameF (GR Rb Mk Bs) w w3.drew) := ⟨HF3.out.os, HF3.out.tape, HF3.out.output, HF3.out.size, HF3.out.block⟩
            have HRd : Hid (RS w3.drew Rb Mk Bx Bs S r2 (gs ++ es)) := by
              have h := HR3.out
              exact ⟨h.rd, MapL.stay h.kn rfl, h.bx, MapL.stay h.sd rfl, h.few, h.ne⟩
            clear hN hgl hr hNl
            go_wp2_with fail
            go_region_held3 (fun w' => w'.cell? ⟨Rb, 0, none⟩ = some (.string S) ∧ w'.cell? ⟨Rb, 1, none⟩ = some (.int .i64 p)) (go_keep) (first | (go_at_call 212; refine (must_yes _).mono ?_; rintro e w' ⟨rfl, rfl⟩))
            by_cases hN0 : 0 < N
            · have hN0i : (0 : Int) < (N : Int) := by omega
              go_wp2_with fail
              refine (must_yes _).mono ?_
              rintro e w' ⟨rfl, rfl⟩
              by_cases h100 : ng ≤ 100
              · have h100i : (ng : Int) ≤ 100 := by omega
                go_wp2_with fail
                refine (must_yes _).mono ?_
                rintro e w' ⟨rfl, rfl⟩
                by_cases h30 : N - ng ≤ 30
                · have h30i : (N : Int) - (ng : Int) ≤ 30 := by omega
                  have HX3 : Hid (X = some (gs, es)) := by show X = _; rw [HX4.out, if_pos ⟨HRr.out, by have := HN.out; omega, h100, by have := HN.out; have := HGL.out; omega⟩]
                  go_wp2_with fail
                  refine (must_yes _).mono ?_
                  rintro e w' ⟨rfl, rfl⟩
                  go_wp2
                  go_end0
                  refine ⟨HFd.out, ?_⟩
                  rw [HX3.out]
                  exact ⟨rfl, r2, HRd.out⟩
                · have h30i : decide ((N : Int) - (ng : Int) ≤ 30) = false := decide_eq_false (by omega)
                  have HX3 : Hid (X = none) := by show X = _; rw [HX4.out, if_neg (fun h => by have := HN.out; have := HGL.out; have := h.2.2.2; omega)]
                  go_wp2_with fail
                  refine (must_no _).mono ?_
                  rintro e w' ⟨rfl, rfl⟩
                  exact ⟨rfl, HFd.out, by rw [HX3.out]⟩
              · have h100i : decide ((ng : Int) ≤ 100) = false := decide_eq_false (by omega)
                have HX3 : Hid (X = none) := by show X = _; rw [HX4.out, if_neg (fun h => h100 h.2.2.1)]
                go_wp2_with fail
                refine (must_no _).mono ?_
                rintro e w' ⟨rfl, rfl⟩
                exact ⟨rfl, HFd.out, by rw [HX3.out]⟩
            · have hN0i : decide ((0 : Int) < (N : Int)) = false := decide_eq_false (by omega)
              have HX3 : Hid (X = none) := by show X = _; rw [HX4.out, if_neg (fun h => by have := HN.out; have := h.2.1; omega)]
              go_wp2_with fail
              refine (must_no _).mono ?_
              rintro e w' ⟨rfl, rfl⟩
              exact ⟨rfl, HFd.out, by rw [HX3.out]⟩
          · have hpS : ((p : Int) == (S.size : Int)) = false := beq_eq_false_iff_ne.2 (fun e => hr (hr2.2 (by omega)))
            have HX3 : Hid (X = none) := by show X = none; rw [HX4.out, if_neg (fun h => hr h.1)]
            clear hr2 hr HX4
            go_wp2_with fail
            refine wp_region_held (S := fun w' => w' = w3.drew) (by kernel_rfl) ?_
            refine wpAnyH_take (i := 0) (v := ?_) rfl (by kernel_rfl) (by kernel_rfl) (by kernel_rfl) (fun _ _ _ h => h) (Or.inl ⟨by rfl, ?_⟩) rfl ?_
            rotate_left
            · rintro _ rfl; go_simp; first | done | with_reducible rfl
            refine wpAnyH_take (i := 1) (v := ?_) rfl (by kernel_rfl) (by kernel_rfl) (by kernel_rfl) (fun _ _ _ h => h) (Or.inl ⟨by rfl, ?_⟩) rfl ?_
            rotate_left
            · rintro _ rfl; go_simp; first | done | with_reducible rfl
            refine wpAnyH_take (i := 2) (v := ?_) rfl (by kernel_rfl) (by kernel_rfl) (by kernel_rfl) (fun _ _ _ h => h) (Or.inl ⟨by rfl, ?_⟩) rfl ?_
            rotate_left
            · rintro _ rfl; go_simp; first | done | with_reducible rfl
            refine wpAnyH_take (i := 3) (v := ?_) rfl (by kernel_rfl) (by kernel_rfl) (by kernel_rfl) (fun _ _ _ h => h) (Or.inl ⟨by rfl, ?_⟩) rfl ?_
            rotate_left
            · rintro _ rfl; go_simp; first | done | with_reducible rfl
            refine wpAnyH_take (i := 4) (v := ?_) rfl (by kernel_rfl) (by kernel_rfl) (by kernel_rfl) (fun _ _ _ h => h) (Or.inl ⟨by rfl, ?_⟩) rfl ?_
            rotate_left
            · rintro _ rfl; go_simp; first | done | with_reducible rfl
            refine wpAnyH_take (i := 5) (v := ?_) rfl (by kernel_rfl) (by kernel_rfl) (by kernel_rfl) (fun _ _ _ h => h) (Or.inl ⟨by rfl, ?_⟩) rfl ?_
            rotate_left
            · rintro _ rfl; go_simp; first | done | with_reducible rfl
            refine wpAnyH_take (i := 6) (v := ?_) rfl (by kernel_rfl) (by kernel_rfl) (by kernel_rfl) (fun _ _ _ h => h) (Or.inl ⟨by rfl, ?_⟩) rfl ?_
            rotate_left
            · rintro _ rfl; go_simp; first | done | with_reducible rfl
            refine wpAnyH_take (i := 7) (v := ?_) rfl (by kernel_rfl) (by kernel_rfl) (by kernel_rfl) (fun _ _ _ h => h) (Or.inl ⟨by rfl, ?_⟩) rfl ?_
            rotate_left
            · rintro _ rfl; go_simp; first | done | with_reducible rfl
            refine wpAnyH_take (i := 8) (v := ?_) rfl (by kernel_rfl) (by kernel_rfl) (by kernel_rfl) (fun _ _ _ h => h) (Or.inl ⟨by rfl, ?_⟩) rfl ?_
            rotate_left
            · rintro _ rfl; go_simp; first | done | with_reducible rfl
            refine wpAnyH_take (i := 9) (v := ?_) rfl (by kernel_rfl) (by kernel_rfl) (by kernel_rfl) (fun _ _ _ h => h) (Or.inl ⟨by rfl, ?_⟩) rfl ?_
            rotate_left
            · rintro _ rfl; go_simp; first | done | with_reducible rfl
            refine wpAnyH_all (rs := [10]) (by kernel_rfl) (by simp) ?_
            intro i hi
            simp only [List.mem_singleton] at hi
            subst hi
            refine wpOp_step (by rfl) fun K' _ => ?_
            rw [if_pos (by rfl)]
            unfold Oper.wp
            go_simp
            refine (must_no _).mono ?_
            rintro e w' ⟨rfl, rfl⟩
            exact ⟨rfl, ⟨HF3.out.os, HF3.out.tape, HF3.out.output, HF3.out.size, HF3.out.block⟩, by rw [HX3.out]⟩

end Go.Proofs.YtocbogeoffeolaaGreatDoor

namespace Go.Proofs.YtocbogeoffeolaaGreatDoor
open Go.RowKit Go.Maps

set_option maxHeartbeats 2000000 in
set_option maxRecDepth 100000 in
theorem guard_any (Rb Mk Bx Bs : Nat) (S : ByteArray) (rest : Wd) (w : World) (h : RS w Rb Mk Bx Bs S rest []) (hS : S.size ≤ 1099511627775) :
    Calls Tryz.prog 158 #[.func (.func 159) #[.pointer (some ⟨Rb, 0, none⟩)] #[]] w fun e w' => FrameF (GR Rb Mk Bs) w w' ∧ match rdSeg rest with
      | some x => e = .returned (.bool true) ∧ ∃ r, RS w' Rb Mk Bx Bs S r (x.1 ++ x.2)
      | none => e = .returned (.bool false) := by
  have hmf : ∀ (fn : Fn) (first cap : Array Value) (w : World), (Instr.makeFunc fn first cap).run Tryz.prog w = .ok (.func fn first cap) w := fun _ _ _ _ => rfl
  obtain ⟨w0, hw0⟩ : ∃ w0, w.alloc (.cells #[.bool false] 4) = w0 := ⟨_, rfl⟩
  have hb0 : Below w.heap.size w w0 := by rw [← hw0]; exact (Below.refl _ _).alloc (Nat.le_refl _) _
  have hh0 : w0.heap[w.heap.size]? = some (.cells #[.bool false] 4 (0, 0)) := by rw [← hw0]; exact heap_alloc_new w _
  have hR0 := h.below hb0
  have hseg := segment_read Rb Mk Bx Bs S rest w0 hR0 hS
  have hsz : ∀ k, GR Rb Mk Bs k → k < w.heap.size := by
    rintro k (rfl | rfl | rfl)
    · exact rs_lt h
    · exact h.kn.lt
    · exact MapL.lt h.sd
  have HZ : Hid (¬ GR Rb Mk Bs w.heap.size) := fun hk => by have := hsz _ hk; omega
  have HH0 : Hid (w0.heap[w.heap.size]? = some (.cells #[.bool false] 4 (0, 0))) := hh0
  have HF0 : Hid (FrameF (GR Rb Mk Bs) w w0) := FrameF.of_below hb0
  clear h hb0 hh0 hR0 hsz
  cases hx : rdSeg rest with
  | none =>
    rw [hx] at hseg
    clear hx
    go_enter_defers Tryz.func158, Tryz.ntmps158
    go_wp2_with fail
    refine hseg.mono ?_
    rintro e w1 ⟨g1, rfl⟩
    have hh1 : w1.heap[w.heap.size]? = some (.cells #[.bool false] 4 (0, 0)) := by rw [g1.block _ (heap_lt HH0.out) HZ.out]; exact HH0.out
    refine leaves_cons (f := 210) (args := #[.pointer (some ⟨w.heap.size, 0, none⟩)]) (by simp) (by simp [go_sem]) ?_
    refine (catch_damage w.heap.size w1 false hh1).mono ?_
    rintro e u' w2 ⟨rfl, rfl, rfl⟩
    have hfr : FrameF (GR Rb Mk Bs) w ((w1.alloc (.cells #[] 264)).setCell ⟨w.heap.size, 0, none⟩ (.bool false)) :=
      ((HF0.out.then g1).then (FrameF.of_below ((Below.refl _ _).alloc (Nat.le_refl _) _))).trans (frame_set (F := (· = w.heap.size)) rfl) (fun i hi hg => by omega)
    have hh2 : ((w1.alloc (.cells #[] 264)).setCell ⟨w.heap.size, 0, none⟩ (.bool false)).heap[w.heap.size]? = some (.cells #[.bool false] 4 (0, 0)) := by
      rw [heap_set (by rw [Below.heap_alloc _ _ _ (heap_lt hh1)]; exact hh1)]; rfl
    have hc2 : ((w1.alloc (.cells #[] 264)).setCell ⟨w.heap.size, 0, none⟩ (.bool false)).cell? ⟨w.heap.size, 0, none⟩ = some (.bool false) := by rw [cell_of_heap hh2]; rfl
    refine ⟨.bool false, ?_, hfr, rfl⟩
    simp [results, Tryz.results158, go_sem, hc2]
  | some x =>
    rw [hx] at hseg
    clear hx
    go_enter_defers Tryz.func158, Tryz.ntmps158
    go_wp2_with fail
    refine hseg.mono ?_
    rintro e w1 ⟨g1, rfl, r, g2⟩
    have hh1 : w1.heap[w.heap.size]? = some (.cells #[.bool false] 4 (0, 0)) := by rw [g1.block _ (heap_lt HH0.out) HZ.out]; exact HH0.out
    have c1 : w1.cell? ⟨w.heap.size, 0, none⟩ = some (.bool false) := by rw [cell_of_heap hh1]; rfl
    have f1 : w1.frozen? ⟨w.heap.size, 0, none⟩ = false := frozen_of_heap hh1 0
    have HH1 : Hid (w1.heap[w.heap.size]? = some (.cells #[.bool false] 4 (0, 0))) := hh1
    have HR1 : Hid (RS w1 Rb Mk Bx Bs S r (x.1 ++ x.2)) := g2
    have HF1 : Hid (FrameF (GR Rb Mk Bs) w w1) := HF0.out.then g1
    clear hseg g1 g2 hh1
    go_wp2
    refine leaves_cons (f := 210) (args := #[.pointer (some ⟨w.heap.size, 0, none⟩)]) (by simp) (by simp [go_sem]) ?_
    refine (catch_none _ _).mono ?_
    rintro e u' w2 ⟨rfl, rfl, rfl⟩
    have hfs : FrameF (· = w.heap.size) w1 (w1.setCell ⟨w.heap.size, 0, none⟩ (.bool true)) := frame_set rfl
    have hh2 : (w1.setCell ⟨w.heap.size, 0, none⟩ (.bool true)).heap[w.heap.size]? = some (.cells #[.bool true] 4 (0, 0)) := by
      rw [heap_set HH1.out]; rfl
    have hc2 : (w1.setCell ⟨w.heap.size, 0, none⟩ (.bool true)).cell? ⟨w.heap.size, 0, none⟩ = some (.bool true) := by rw [cell_of_heap hh2]; rfl
    refine ⟨.bool true, ?_, HF1.out.trans hfs (fun i hi hg => by omega), rfl, r, HR1.out.far HH1.out (by decide) (by decide) hfs⟩
    simp [results, Tryz.results158, go_sem, hc2]

def EachO (Bs : Nat) (X : Option (List Ent × List Ent)) (e : Ending) (w' : World) : Prop := match X with
  | some x => e = .returned (.bool true) ∧ SayM w' Bs (x.1 ++ x.2)
  | none => e = .returned (.bool false)
def UnpO (w : World) (X : Option (List Ent × List Ent)) (e : Ending) (w' : World) : Prop := match X with
  | some x => ∃ B, e = .returned (.tuple #[.map (some B), .bool true]) ∧ w.heap.size ≤ B ∧ SayM w' B (x.1 ++ x.2)
  | none => e = .returned (.tuple #[.map none, .bool false])

set_option maxHeartbeats 2000000 in
set_option maxRecDepth 100000 in
theorem each_any (Bx Bs : Nat) (S : ByteArray) (w : World) (hx : w.heap[Bx]? = some (.cells #[.map (some Bs)] 85 (0, 0))) (hs : SayM w Bs []) (hS : S.size ≤ 1099511627775) :
    Calls Tryz.prog 117 #[.string S, tellV Bx] w fun e w' => FrameF (· = Bs) w w' ∧ EachO Bs (rdSeg S.data.toList) e w' := by
  have hmm := @run_makeMap Tryz.prog
  have hmf : ∀ (fn : Fn) (first cap : Array Value) (w : World), (Instr.makeFunc fn first cap).run Tryz.prog w = .ok (.func fn first cap) w := fun _ _ _ _ => rfl
  obtain ⟨w0, hw0⟩ : ∃ w0, w.alloc (.map #[] 0) = w0 := ⟨_, rfl⟩
  have hz0 : w0.heap.size = w.heap.size + 1 := by rw [← hw0]; simp
  obtain ⟨w1, hw1⟩ : ∃ w1, w0.alloc (.cells #[.string S, .int .i64 0, .map (some w.heap.size), tellV Bx] 216) = w1 := ⟨_, rfl⟩
  have hb0 : Below w.heap.size w w0 := by rw [← hw0]; exact (Below.refl _ _).alloc (Nat.le_refl _) _
  have hb1 : Below w.heap.size w w1 := by rw [← hw1]; exact hb0.alloc (by omega) _
  have hM0 : MapL Tryz.prog 9 w0 w.heap.size [] := by rw [← hw0]; exact MapL.made w
  have hM1 : MapL Tryz.prog 9 w1 w.heap.size [] := hM0.stay (by rw [← hw1]; exact Below.heap_alloc _ _ _ (by omega))
  have hh1 : w1.heap[w.heap.size + 1]? = some (.cells #[.string S, .int .i64 0, .map (some w.heap.size), tellV Bx] 216 (0, 0)) := by rw [← hw1, ← hz0]; exact heap_alloc_new w0 _
  have hRS : RS w1 (w.heap.size + 1) w.heap.size Bx Bs S S.data.toList [] := by
    refine ⟨⟨0, hh1, Nat.zero_le _, rfl⟩, hM1, ?_, MapL.below hs hb1, by simp, fun e => ?_⟩
    · rw [hb1.block Bx (heap_lt hx)]; exact hx
    · have := MapL.lt hs; omega
  have hgu := guard_any (w.heap.size + 1) w.heap.size Bx Bs S S.data.toList w1 hRS hS
  have HB1 : Hid (Below w.heap.size w w1) := hb1
  clear hx hs hb0 hb1 hM0 hM1 hh1 hRS
  have hfr : ∀ w', FrameF (GR (w.heap.size + 1) w.heap.size Bs) w1 w' → FrameF (· = Bs) w w' := fun w' g => (FrameF.of_below HB1.out).trans g (fun i hi hg => by
    rcases hg with h | h | h
    · omega
    · omega
    · exact h)
  have HFR : Hid (∀ w', FrameF (GR (w.heap.size + 1) w.heap.size Bs) w1 w' → FrameF (· = Bs) w w') := hfr
  clear hfr
  unfold tellV at hw1 ⊢
  go_enter Tryz.func117, Tryz.ntmps117
  go_wp2_with fail
  refine hgu.mono ?_
  rintro e w2 ⟨g1, g2⟩
  cases hx : rdSeg S.data.toList with
  | none =>
    rw [hx] at g2
    simp only at g2
    subst g2
    have HX : Hid (rdSeg S.data.toList = none) := hx
    clear hx
    go_wp2
    go_ret
    exact ⟨HFR.out _ g1, by rw [HX.out]; rfl⟩
  | some x =>
    rw [hx] at g2
    obtain ⟨rfl, r, g3⟩ := g2
    have HS : Hid (SayM w2 Bs (x.1 ++ x.2)) := g3.sd
    have HX : Hid (rdSeg S.data.toList = some x) := hx
    clear g3 hgu hx
    go_wp2
    go_ret
    exact ⟨HFR.out _ g1, by rw [HX.out]; exact ⟨rfl, HS.out⟩⟩

set_option maxHeartbeats 2000000 in
set_option maxRecDepth 100000 in
theorem unpack_any (S : ByteArray) (w : World) (hS : S.size ≤ 1099511627775) :
    Calls Tryz.prog 88 #[.string S] w fun e w' => Below w.heap.size w w' ∧ UnpO w (rdSeg S.data.toList) e w' := by
  have hmm := @run_makeMap Tryz.prog
  have hmf : ∀ (fn : Fn) (first cap : Array Value) (w : World), (Instr.makeFunc fn first cap).run Tryz.prog w = .ok (.func fn first cap) w := fun _ _ _ _ => rfl
  obtain ⟨w0, hw0⟩ : ∃ w0, w.alloc (.map #[] 0) = w0 := ⟨_, rfl⟩
  have hz0 : w0.heap.size = w.heap.size + 1 := by rw [← hw0]; simp
  obtain ⟨w1, hw1⟩ : ∃ w1, w0.alloc (.cells #[.map (some w.heap.size)] 85) = w1 := ⟨_, rfl⟩
  have hb0 : Below w.heap.size w w0 := by rw [← hw0]; exact (Below.refl _ _).alloc (Nat.le_refl _) _
  have hb1 : Below w.heap.size w w1 := by rw [← hw1]; exact hb0.alloc (by omega) _
  have hM0 : SayM w0 w.heap.size [] := by rw [← hw0]; exact MapL.made w
  have hM1 : SayM w1 w.heap.size [] := MapL.stay hM0 (by rw [← hw1]; exact Below.heap_alloc _ _ _ (by omega))
  have hh1 : w1.heap[w.heap.size + 1]? = some (.cells #[.map (some w.heap.size)] 85 (0, 0)) := by rw [← hw1, ← hz0]; exact heap_alloc_new w0 _
  have hea := each_any (w.heap.size + 1) w.heap.size S w1 hh1 hM1 hS
  have HB1 : Hid (Below w.heap.size w w1) := hb1
  have HH1 : Hid (w1.heap[w.heap.size + 1]? = some (.cells #[.map (some w.heap.size)] 85 (0, 0))) := hh1
  clear hb0 hb1 hM0 hM1 hh1
  unfold tellV at hea
  go_enter Tryz.func88, Tryz.ntmps88
  go_wp2_with fail
  refine hea.mono ?_
  rintro e w2 ⟨g1, g2⟩
  have HB2 : Hid (Below w.heap.size w w2) := by
    show Below _ _ _
    refine ⟨g1.os.trans HB1.out.os, g1.tape.trans HB1.out.tape, g1.output.trans HB1.out.output, Nat.le_trans HB1.out.size g1.size, fun k hk => ?_⟩
    rw [g1.block k (Nat.lt_of_lt_of_le hk HB1.out.size) (by show k ≠ _; omega), HB1.out.block k hk]
  have hh2 : w2.heap[w.heap.size + 1]? = some (.cells #[.map (some w.heap.size)] 85 (0, 0)) := by rw [g1.block _ (heap_lt HH1.out) (by show w.heap.size + 1 ≠ _; omega)]; exact HH1.out
  have c2 : w2.cell? ⟨w.heap.size + 1, 0, none⟩ = some (.map (some w.heap.size)) := by rw [cell_of_heap hh2]; rfl
  clear hea hh2 g1 hw0 hw1
  cases hx : rdSeg S.data.toList with
  | none =>
    rw [hx] at g2
    unfold EachO at g2
    simp only at g2
    subst g2
    have HX : Hid (rdSeg S.data.toList = none) := hx
    clear hx
    go_wp2
    go_ret2
    exact ⟨HB2.out, by rw [HX.out]; rfl⟩
  | some x =>
    rw [hx] at g2
    obtain ⟨rfl, g3⟩ := g2
    have HS : Hid (SayM w2 w.heap.size (x.1 ++ x.2)) := g3
    have HX : Hid (rdSeg S.data.toList = some x) := hx
    clear g3 hx
    go_wp2
    go_ret2
    exact ⟨HB2.out, by rw [HX.out]; exact ⟨_, rfl, Nat.le_refl _, HS.out⟩⟩

end Go.Proofs.YtocbogeoffeolaaGreatDoor

namespace Go.Proofs.YtocbogeoffeolaaGreatDoor
open Go.RowKit

theorem ext_take (s : ByteArray) (n : Nat) : s.extract 0 n = ⟨(s.data.toList.take n).toArray⟩ := by
  apply ByteArray.ext
  rw [ByteArray.data_extract]
  apply Array.toList_inj.1
  simp

theorem u8_val (n : Int) : ((u8 n).toNat : Int) = n % 256 := by
  unfold u8
  have : (UInt8.ofNat (n % 256).toNat).toNat = (n % 256).toNat % 256 := by simp
  rw [this]
  omega
theorem ba_append (a : List UInt8) (s : ByteArray) : (⟨a.toArray⟩ : ByteArray) ++ s = ⟨(a ++ s.data.toList).toArray⟩ := by
  apply ByteArray.ext
  rw [ByteArray.data_append]
  apply Array.toList_inj.1
  simp
theorem byteVals_u8 (n : Int) : byteVals [u8 n] = [.int .u8 (n % 256)] := by simp only [byteVals, List.map_cons, List.map_nil, u8_val]
/-- A row of bytes that has just been laid, as a text. -/
theorem conv_lit {w : World} {l : List UInt8} (cs : Array Value) (n : Nat) (h : cs.toList = byteVals l) (hn : cs.size = n) (hm : n ≤ maxLen) :
    (convert 60 9 (.slice (some ⟨w.heap.size, 0, none⟩) n n)).run Tryz.prog (w.alloc (.cells cs 5)) = .ok (.string ⟨l.toArray⟩) (w.alloc (.cells cs 5)) := by
  have ho := World.ownsRow_lit (base := w.heap.size) (size := 1) (e := 5) w cs n (Nat.le_refl _) hm (by omega)
  rw [h] at ho
  exact conv_bytes ho Tryz.underlying60 Tryz.underlying5 Tryz.underlying9

set_option maxHeartbeats 400000 in
set_option maxRecDepth 100000 in
theorem begins_any (s p : ByteArray) (w : World) :
    Calls Tryz.prog 201 #[.string s, .string p] w fun e w' => e = .returned (.bool (begB s.data.toList p.data.toList)) ∧ w = w' := by
  go_enter Tryz.func201, Tryz.ntmps201
  by_cases h : p.size ≤ s.size
  · go_wp2
    go_ret
    refine ⟨ret_bool ?_, rfl⟩
    rw [begB_eq, ext_take, ByteArray.toList_eq, ByteArray.toList_eq]
    simp [h]
  · go_wp2
    go_ret
    refine ⟨ret_bool ?_, rfl⟩
    rw [begB_eq]
    simp [h]

set_option maxHeartbeats 400000 in
set_option maxRecDepth 100000 in
theorem piece_any (s : ByteArray) (w : World) (hs : s.size ≤ 1099511627776) :
    Calls Tryz.prog 149 #[.string s] w fun e w' => e = .returned (.string ⟨(pieceL s.data.toList).toArray⟩) ∧ Below w.heap.size w w' := by
  have hc := conv_lit (w := w) (l := [u8 s.size]) #[.int .u8 ((s.size : Int) % 256)] 1 (by rw [byteVals_u8]) rfl (by unfold maxLen; omega)
  have hb := (Below.refl w.heap.size w).alloc (Nat.le_refl _) (.cells #[.int .u8 ((s.size : Int) % 256)] 5)
  go_enter Tryz.func149, Tryz.ntmps149
  go_wp2
  go_ret
  refine ⟨ret_str ?_, hb⟩
  exact ba_append [u8 s.size] s

set_option maxHeartbeats 400000 in
set_option maxRecDepth 100000 in
theorem three_any (n : Int) (w : World) (h0 : -9223372036854775808 ≤ n) (h1 : n ≤ 9223372036854775807) :
    Calls Tryz.prog 202 #[.int .i64 n] w fun e w' => e = .returned (.string ⟨(threeL n).toArray⟩) ∧ Below w.heap.size w w' := by
  have hc := conv_lit (w := w) (l := threeL n) #[.int .u8 (n.tdiv 65536 % 256), .int .u8 ((n.tdiv 256).tmod 256 % 256), .int .u8 (n.tmod 256 % 256)] 3 (by simp only [threeL, byteVals, List.map_cons, List.map_nil, u8_val]) rfl (by unfold maxLen; omega)
  have hb := (Below.refl w.heap.size w).alloc (Nat.le_refl _) (.cells #[.int .u8 (n.tdiv 65536 % 256), .int .u8 ((n.tdiv 256).tmod 256 % 256), .int .u8 (n.tmod 256 % 256)] 5)
  go_enter Tryz.func202, Tryz.ntmps202
  go_wp2
  go_ret
  exact ⟨rfl, hb⟩

end Go.Proofs.YtocbogeoffeolaaGreatDoor

