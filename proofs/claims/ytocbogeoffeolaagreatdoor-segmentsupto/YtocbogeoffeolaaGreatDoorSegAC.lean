/-
  MAPS WITH TEXTS AS KEYS, told by a list of keys and elements, whatever the elements are: made, looked up, put, ranged over.
-/
import Derived.Test.YtocbogeoffeolaaGreatDoorSegAA
import Derived.Maps.OwnSet
import Derived.Maps.RangeWalk
namespace Go.Proofs.YtocbogeoffeolaaGreatDoor
open Go.RowKit Go.Maps

/-- Every element is told by itself. -/
def heldElem (v : Value) : Option (DataW Value × List MemPlace) := some (.held v, [])

/-- What a datum says of each key, as a list does. -/
structure Says (D : DataW Value) (l : List (Wd × Value)) : Prop where
  nodup : (l.map Prod.fst).Nodup
  short : ∀ p ∈ l, p.1.length ≤ maxLen
  size : Maps.size D = l.length
  has : ∀ x : Wd, Maps.has D (.string x) = l.any fun p => p.1 == x
  at_ : ∀ p ∈ l, ∀ z, D.atKey (.string p.1) z = .held p.2

/-- Block B is a map that says what the list says. -/
def MapL (P : Program) (k : TypeId) (w : World) (B : Nat) (l : List (Wd × Value)) : Prop := ∃ D : DataW Value, w.ownsMap P k heldElem B l.length D ∧ Says D l

def putP (l : List (Wd × Value)) (x : Wd) (v : Value) : List (Wd × Value) := (l.filter fun p => p.1 != x) ++ [(x, v)]

theorem any_perm {α : Type} {l m : List α} (h : l.Perm m) (f : α → Bool) : l.any f = m.any f := by
  rw [Bool.eq_iff_iff]
  simp only [List.any_eq_true]
  exact ⟨fun ⟨x, hx, hf⟩ => ⟨x, h.mem_iff.1 hx, hf⟩, fun ⟨x, hx, hf⟩ => ⟨x, h.mem_iff.2 hx, hf⟩⟩

theorem Says.perm {D : DataW Value} {l m : List (Wd × Value)} (h : Says D l) (hp : l.Perm m) : Says D m where
  nodup := (hp.map Prod.fst).nodup_iff.1 h.nodup
  short := fun p hm => h.short p (hp.mem_iff.2 hm)
  size := by rw [h.size, hp.length_eq]
  has := fun x => by rw [h.has x, any_perm hp]
  at_ := fun p hm => h.at_ p (hp.mem_iff.2 hm)

theorem owns_tight {P : Program} {k : TypeId} {w : World} {B n : Nat} {D : DataW Value} {R : Value → Option (DataW Value × List MemPlace)} (h : w.ownsMap P k R B n D) : w.ownsMap P k R B (Maps.size D) D := by
  obtain ⟨es, clock, hb, F, _, rfl⟩ := h
  exact ⟨es, clock, hb, F, by simp [Maps.size, length_sorted], rfl⟩

section
variable {P : Program} {k : TypeId} {w : World} {B : Nat} {l : List (Wd × Value)}

theorem MapL.perm {m : List (Wd × Value)} (h : MapL P k w B l) (hp : l.Perm m) : MapL P k w B m := by
  obtain ⟨D, h1, h2⟩ := h
  exact ⟨D, by rw [← hp.length_eq]; exact h1, h2.perm hp⟩
theorem MapL.lt (h : MapL P k w B l) : B < w.heap.size := by
  obtain ⟨D, h1, _⟩ := h
  exact h1.lt
theorem MapL.nodup (h : MapL P k w B l) : (l.map Prod.fst).Nodup := by
  obtain ⟨D, _, h2⟩ := h
  exact h2.nodup
theorem MapL.stay {w' : World} (h : MapL P k w B l) (hb : w'.heap[B]? = w.heap[B]?) : MapL P k w' B l := by
  obtain ⟨D, ⟨es, clock, h1, h2⟩, h3⟩ := h
  exact ⟨D, ⟨es, clock, hb.trans h1, h2⟩, h3⟩
theorem MapL.below {w' : World} (h : MapL P k w B l) (hb : Below w.heap.size w w') : MapL P k w' B l := h.stay (hb.block B h.lt)
theorem MapL.kept {w' : World} {row : Option Nat} (h : MapL P k w B l) (hg : w.grownBy w' row) (hne : some B ≠ row) : MapL P k w' B l := h.stay (hg.block B h.lt hne)
theorem MapL.made (w : World) : MapL P k (w.alloc (.map #[] 0)) w.heap.size [] :=
  ⟨.map [], World.ownsMap_made _ _ _ _, ⟨List.Pairwise.nil, fun _ h => by simp at h, rfl, fun _ => rfl, fun _ h => by simp at h⟩⟩

theorem key_str (hk : P.underlying k = some .string) (x : Wd) (hx : x.length ≤ maxLen) : keyOf P k (.string ⟨x.toArray⟩) = some (.string x) := by
  have := WideMaps.keyOf_string_mk (P := P) (k := k) hk (s := ⟨x.toArray⟩) (by show x.toArray.size ≤ maxLen; simpa using hx)
  simpa using this

/-- What is found at a key. -/
def lookP (l : List (Wd × Value)) (x : Wd) (z : Value) : Value := match l.find? fun p => p.1 == x with
  | some p => p.2
  | none => z

theorem MapL.look {t e : TypeId} {z : Value} (h : MapL P k w B l) (hk : P.underlying k = some .string) (ht : P.underlying t = some (.map k e)) (hz : (zeroValue e).run P w = .ok z w) (x : Wd) (hx : x.length ≤ maxLen) :
    (Instr.lookup t (.map (some B)) (.string ⟨x.toArray⟩) false).run P w = .ok (lookP l x z) w ∧ (Instr.lookup t (.map (some B)) (.string ⟨x.toArray⟩) true).run P w = .ok (.tuple #[lookP l x z, .bool (l.any fun p => p.1 == x)]) w := by
  obtain ⟨D, h1, h2⟩ := h
  have K := string_keyed hk
  have hkey := key_str hk x hx
  obtain ⟨v1, p1, r1, s1⟩ := h1.lookup K ht hz (zd := .held z) (zp := []) rfl hkey
  obtain ⟨v2, p2, r2, s2⟩ := h1.look_ok K ht hz (zd := .held z) (zp := []) rfl hkey
  have hat : D.atKey (.string x) (.held z) = .held (lookP l x z) := by
    unfold lookP
    cases hf : l.find? fun p => p.1 == x with
    | none =>
      have : Maps.has D (.string x) = false := by
        rw [h2.has x, List.any_eq_false]
        intro p hp
        simpa using List.find?_eq_none.1 hf p hp
      exact atKey_of_not_has this _
    | some p =>
      have hp := List.mem_of_find?_eq_some hf
      have he : p.1 = x := by simpa using List.find?_some hf
      have := h2.at_ p hp (.held z)
      rw [he] at this
      exact this
  rw [hat] at s1 s2
  simp only [heldElem, Option.some.injEq, Prod.mk.injEq, DataW.held.injEq] at s1 s2
  rw [r1, r2, s1.1, s2.1, h2.has x]
  exact ⟨rfl, rfl⟩

theorem MapL.len {t e : TypeId} (h : MapL P k w B l) (ht : P.underlying t = some (.map k e)) (ty : TypeId) : (Builtin.len_ #[t] ty #[.map (some B)]).run P w = .ok (.int .i64 (l.length : Nat)) w := by
  obtain ⟨D, h1, h2⟩ := h
  rw [h1.len ht ty, h2.size]

theorem filt_any (l : List (Wd × Value)) (x y : Wd) (hne : y ≠ x) : (l.filter fun p => p.1 != x).any (fun p => p.1 == y) = l.any fun p => p.1 == y := by
  rw [Bool.eq_iff_iff]
  simp only [List.any_eq_true, List.mem_filter, beq_iff_eq, bne_iff_ne]
  constructor
  · rintro ⟨p, ⟨h1, _⟩, h3⟩; exact ⟨p, h1, h3⟩
  · rintro ⟨p, h1, h3⟩; exact ⟨p, ⟨h1, by rw [h3]; exact hne⟩, h3⟩
theorem filt_len (x : Wd) : ∀ (l : List (Wd × Value)), (l.map Prod.fst).Nodup → (l.filter fun p => p.1 != x).length + (if l.any (fun p => p.1 == x) then 1 else 0) = l.length := by
  intro l
  induction l with
  | nil => intro _; rfl
  | cons p l ih =>
    intro hn
    rw [List.map_cons, List.nodup_cons] at hn
    have h := ih hn.2
    by_cases e : p.1 = x
    · have hno : l.any (fun p => p.1 == x) = false := by
        rw [List.any_eq_false]
        intro q hq
        simp only [beq_iff_eq]
        intro e2
        exact hn.1 (List.mem_map.2 ⟨q, hq, by rw [e2, e]⟩)
      rw [hno] at h
      rw [List.filter_cons, List.any_cons, hno]
      simp [e] at h ⊢
      exact h
    · rw [List.filter_cons, List.any_cons]
      simp only [bne_iff_ne, ne_eq, e, not_false_eq_true, if_true, List.length_cons]
      have : (p.1 == x) = false := by simpa using e
      rw [this, Bool.false_or]
      omega

theorem MapL.put {t e : TypeId} (h : MapL P k w B l) (hk : P.underlying k = some .string) (ht : P.underlying t = some (.map k e)) (hn : l.length < maxLen) (x : Wd) (hx : x.length ≤ maxLen) (v : Value) :
    ∃ w', (Instr.mapUpdate t (.map (some B)) (.string ⟨x.toArray⟩) v).run P w = .ok () w' ∧ MapL P k w' B (putP l x v) ∧ w.grownBy w' (some B) ∧ w'.heap.size = w.heap.size := by
  obtain ⟨D, h1, h2⟩ := h
  have K := string_keyed hk
  have hkey := key_str hk x hx
  obtain ⟨w', hr, ho, ht'⟩ := h1.store K ht hn hkey (d := .held v) (ps := []) (val := v) rfl
  have hT := h1.tidy K
  have hsz : Maps.size (D.put (.string x) (.held v)) = (putP l x v).length := by
    rw [size_put hT, h2.has x, h2.size]
    have := filt_len x l h2.nodup
    unfold putP
    rw [List.length_append, List.length_singleton]
    split at this <;> rename_i hh
    · rw [if_pos hh]; omega
    · rw [if_neg hh]; omega
  refine ⟨w', hr, ⟨_, by rw [← hsz]; exact owns_tight ho, ⟨?_, ?_, hsz, ?_, ?_⟩⟩, ht'.grown, ?_⟩
  · unfold putP
    rw [List.map_append, List.map_cons, List.map_nil, List.nodup_append]
    refine ⟨h2.nodup.sublist ((List.filter_sublist).map _), by simp, ?_⟩
    intro a ha b hb
    simp only [List.mem_singleton] at hb
    subst hb
    obtain ⟨p, hp, rfl⟩ := List.mem_map.1 ha
    have := (List.mem_filter.1 hp).2
    simpa using this
  · intro p hp
    unfold putP at hp
    rcases List.mem_append.1 hp with h | h
    · exact h2.short p (List.mem_filter.1 h).1
    · simp only [List.mem_singleton] at h; subst h; exact hx
  · intro y
    unfold putP
    rw [List.any_append]
    by_cases e : y = x
    · subst e
      rw [has_put_same h1.isMap (show WideAt.IsKeyLit (.string y) from trivial)]
      simp
    · rw [has_put_other (by simpa using e), h2.has y, filt_any l x y e]
      have : (x == y) = false := by simpa using fun h => e h.symm
      simp [this]
  · intro p hp z
    unfold putP at hp
    rcases List.mem_append.1 hp with h | h
    · have hm := List.mem_filter.1 h
      have hne : p.1 ≠ x := by simpa using hm.2
      rw [atKey_put_other (by simpa using hne)]
      exact h2.at_ p hm.1 z
    · simp only [List.mem_singleton] at h
      subst h
      rw [atKey_put_same h1.isMap (show WideAt.IsKeyLit (.string x) from trivial)]
  · obtain ⟨es, clock, es', clock', _, rfl⟩ := ht'
    simp [ChangeMaps.setBlock]

/-- A range under way: what is still to come. -/
def RangeL (P : Program) (k : TypeId) (w : World) (B r : Nat) (l rest : List (Wd × Value)) : Prop :=
  (rest.map Prod.fst).Nodup ∧ (∀ p ∈ rest, p ∈ l) ∧ ∃ D left cnt, w.ranges P k heldElem B r l.length D left cnt ∧ Says D l ∧ ∀ x : Wd, left (.string x) = rest.any fun p => p.1 == x

theorem RangeL.owns {r : Nat} {rest : List (Wd × Value)} (h : RangeL P k w B r l rest) : MapL P k w B l := by
  obtain ⟨_, _, D, left, cnt, h1, h2, _⟩ := h
  exact ⟨D, h1.owns, h2⟩
theorem RangeL.lt {r : Nat} {rest : List (Wd × Value)} (h : RangeL P k w B r l rest) : r < w.heap.size := by
  obtain ⟨_, _, D, left, cnt, h1, h2, _⟩ := h
  exact h1.lt
theorem RangeL.ne {r : Nat} {rest : List (Wd × Value)} (h : RangeL P k w B r l rest) : r ≠ B := by
  obtain ⟨_, _, D, left, cnt, h1, h2, _⟩ := h
  exact h1.ne
theorem RangeL.kept {w' : World} {r : Nat} {rest : List (Wd × Value)} {row : Option Nat} (h : RangeL P k w B r l rest) (hg : w.grownBy w' row) (hB : some B ≠ row) (hr : some r ≠ row) : RangeL P k w' B r l rest := by
  obtain ⟨a, b, D, left, cnt, h1, h2, h3⟩ := h
  exact ⟨a, b, D, left, cnt, h1.kept hg hB hr, h2, h3⟩
theorem RangeL.stay {w' : World} {r : Nat} {rest : List (Wd × Value)} (h : RangeL P k w B r l rest) (hB : w'.heap[B]? = w.heap[B]?) (hr : w'.heap[r]? = w.heap[r]?) : RangeL P k w' B r l rest := by
  obtain ⟨a, b, D, left, cnt, ⟨es, clock, since, seen, c0, g1, g2, g3, g4, g5, g6⟩, h2, h3⟩ := h
  exact ⟨a, b, D, left, cnt, ⟨es, clock, since, seen, c0, hB.trans g1, g2, g3, g4, hr.trans g5, g6⟩, h2, h3⟩
theorem RangeL.left_stay {w' : World} {r : Nat} (hB : w'.heap[B]? = w.heap[B]?) (hr : w'.heap[r]? = w.heap[r]?) : w'.rangeLeft B r = w.rangeLeft B r := by
  unfold World.rangeLeft
  rw [hB, hr]

theorem MapL.range {t e : TypeId} (h : MapL P k w B l) (hk : P.underlying k = some .string) (ht : P.underlying t = some (.map k e)) :
    ∃ w', (Instr.range t (.map (some B))).run P w = .ok (.pointer (some ⟨w.heap.size, 0, none⟩)) w' ∧ RangeL P k w' B w.heap.size l l ∧ w.grownBy w' none ∧ w'.heap.size = w.heap.size + 1 := by
  obtain ⟨D, h1, h2⟩ := h
  obtain ⟨w', hr, r1, r2, r3⟩ := h1.range (string_keyed hk) ht
  exact ⟨w', hr, ⟨h2.nodup, fun _ h => h, D, _, _, r1, h2, h2.has⟩, r2, r3⟩

theorem str_inv (hk : P.underlying k = some .string) {key : Value} {kl : Lit} (h : keyOf P k key = some kl) : ∃ x : Wd, key = .string ⟨x.toArray⟩ ∧ kl = .string x := by
  cases key <;> simp [keyOf, hk, mapKey] at h
  rename_i s
  refine ⟨s.data.toList, ?_, h.2.symm⟩
  simp

theorem fst_inj : ∀ {l : List (Wd × Value)}, (l.map Prod.fst).Nodup → ∀ {a b : Wd × Value}, a ∈ l → b ∈ l → a.1 = b.1 → a = b := by
  intro l
  induction l with
  | nil => intro _ a b h; simp at h
  | cons c l ih =>
    intro hn a b ha hb e
    rw [List.map_cons, List.nodup_cons] at hn
    rcases List.mem_cons.1 ha with ea | ha
    · rcases List.mem_cons.1 hb with eb | hb
      · rw [ea, eb]
      · exact absurd (List.mem_map.2 ⟨b, hb, by rw [← e, ea]⟩) hn.1
    · rcases List.mem_cons.1 hb with eb | hb
      · exact absurd (List.mem_map.2 ⟨a, ha, by rw [e, eb]⟩) hn.1
      · exact ih hn.2 ha hb e

theorem RangeL.next {r : Nat} {rest : List (Wd × Value)} (h : RangeL P k w B r l rest) (hk : P.underlying k = some .string) (ty : TypeId) :
    (rest = [] ∧ (Instr.next (.pointer (some ⟨r, 0, none⟩)) false ty).run P w = .ok (.tuple #[.bool false]) w) ∨
    ∃ p rest' w', rest.Perm (p :: rest') ∧ (Instr.next (.pointer (some ⟨r, 0, none⟩)) false ty).run P w = .ok (.tuple #[.bool true, .string ⟨p.1.toArray⟩, p.2]) w' ∧ RangeL P k w' B r l rest' ∧ w'.rangeLeft B r < w.rangeLeft B r ∧
      w.grownBy w' (some r) ∧ w'.heap.size = w.heap.size ∧ (Instr.entry (.pointer (some ⟨r, 0, none⟩))).run P w' = .ok (.tuple #[.string ⟨p.1.toArray⟩, p.2]) w' := by
  obtain ⟨hn, hsub, D, left, cnt, h1, h2, h3⟩ := h
  rcases h1.next (string_keyed hk) ty with ⟨_, hl, hr⟩ | ⟨key, v, kl, y, w', cnt', hkey, hlk, hv, hat, hr, hrg, hlt, hg, hs, hen⟩
  · left
    refine ⟨?_, hr⟩
    cases rest with
    | nil => rfl
    | cons p rest =>
      have := hl (.string p.1)
      rw [h3] at this
      simp at this
  · right
    obtain ⟨x, rfl, rfl⟩ := str_inv hk hkey
    have hx := hlk
    rw [h3, List.any_eq_true] at hx
    obtain ⟨p, hp, hpx⟩ := hx
    have hpx : p.1 = x := by simpa using hpx
    subst hpx
    have hpv : v = p.2 := by
      have e1 := h2.at_ p (hsub p hp) (.held v)
      rw [hat] at e1
      simp only [heldElem, Option.some.injEq] at hv
      rw [← hv] at e1
      simpa using e1
    subst hpv
    refine ⟨p, rest.filter fun q => q.1 != p.1, w', ?_, hr, ⟨?_, ?_, D, _, cnt', hrg, h2, fun x => ?_⟩, ?_, hg, hs, hen⟩
    · have hrn : rest.Nodup := List.Pairwise.of_map _ (fun a b hab e => hab (by rw [e])) hn
      rw [List.perm_ext_iff_of_nodup hrn]
      · intro q
        simp only [List.mem_cons, List.mem_filter, bne_iff_ne]
        constructor
        · intro hq
          by_cases e : q.1 = p.1
          · left
            exact fst_inj hn hq hp e
          · right; exact ⟨hq, e⟩
        · rintro (rfl | ⟨hq, _⟩)
          · exact hp
          · exact hq
      · rw [List.nodup_cons]
        refine ⟨fun h => ?_, hrn.sublist List.filter_sublist⟩
        have := (List.mem_filter.1 h).2
        simp at this
    · exact hn.sublist (List.filter_sublist.map _)
    · exact fun q hq => hsub q (List.mem_filter.1 hq).1
    · show (left (.string x) && !(Lit.string x).sameKey (.string p.1)) = _
      rw [h3]
      by_cases e : x = p.1
      · subst e
        have : (Lit.string p.1).sameKey (.string p.1) = true := by simp [Lit.sameKey]
        rw [this]
        simp only [Bool.not_true, Bool.and_false]
        symm
        rw [List.any_eq_false]
        intro q hq
        have := (List.mem_filter.1 hq).2
        simpa using this
      · have : (Lit.string x).sameKey (.string p.1) = false := by simp [Lit.sameKey, e]
        rw [this, filt_any rest p.1 x e]
        simp
    · rw [hrg.left_eq, h1.left_eq]
      exact hlt

end

section
variable {P : Program} {k : TypeId} {B : Nat} {l : List (Wd × Value)} (w : World) {ops : Array Oper} {rest : List Oper} {o : Oper} {a : Act} {Q : Exit → Act → World → Prop}

theorem wpList_rangeL (hg : o.guard = none) (m : Operand) (t : TypeId) (hop : o.op = Op.range t m) (e : TypeId) (hk : P.underlying k = some .string) (ht : P.underlying t = some (.map k e))
    (hm : a.eval m = .map (some B)) (h : MapL P k w B l)
    (hK : ∀ w', RangeL P k w' B w.heap.size l l → w.grownBy w' none → w'.heap.size = w.heap.size + 1 → wpList P ops Q rest (a.put o.dst (.pointer (some ⟨w.heap.size, 0, none⟩))) w') :
    wpList P ops Q (o :: rest) a w := by
  refine wpList_plain hg fun K' hK' => ?_
  obtain ⟨w', hrun, r1, r2, r3⟩ := h.range hk ht
  unfold Oper.wp
  simp [execOp, hop, hm, hrun, Result.andThen]
  exact hK' _ _ (hK w' r1 r2 r3)

theorem wpList_nextL (hg : o.guard = none) (it : Operand) (hop : o.op = Op.next it false) (hk : P.underlying k = some .string) (r : Nat) (left : List (Wd × Value))
    (hit : a.eval it = .pointer (some ⟨r, 0, none⟩)) (h : RangeL P k w B r l left)
    (hDone : left = [] → wpList P ops Q rest (a.put o.dst (.tuple #[.bool false])) w)
    (hMore : ∀ p left' w', left.Perm (p :: left') → RangeL P k w' B r l left' → w'.rangeLeft B r < w.rangeLeft B r → w.grownBy w' (some r) → w'.heap.size = w.heap.size → (Instr.entry (.pointer (some ⟨r, 0, none⟩))).run P w' = .ok (.tuple #[.string ⟨p.1.toArray⟩, p.2]) w' →
      wpList P ops Q rest (a.put o.dst (.tuple #[.bool true, .string ⟨p.1.toArray⟩, p.2])) w') :
    wpList P ops Q (o :: rest) a w := by
  refine wpList_plain hg fun K' hK' => ?_
  unfold Oper.wp
  rcases h.next hk o.type with ⟨h0, hrun⟩ | ⟨p, left', w', hp, hrun, hrg, hlt, hgr, hsz, hen⟩
  · simp [execOp, hop, hit, hrun, Result.andThen]
    exact hK' _ _ (hDone h0)
  · simp [execOp, hop, hit, hrun, Result.andThen]
    exact hK' _ _ (hMore p left' w' hp hrg hlt hgr hsz hen)

theorem wpList_putL (hg : o.guard = none) (m x v : Operand) (t : TypeId) (hop : o.op = Op.mapUpdate t m x v) (e : TypeId) (hk : P.underlying k = some .string) (ht : P.underlying t = some (.map k e))
    (hm : a.eval m = .map (some B)) (h : MapL P k w B l) (hn : l.length < maxLen) (y : Wd) (hy : y.length ≤ maxLen) (hx : a.eval x = .string ⟨y.toArray⟩) (u : Value) (hv : a.eval v = u)
    (hK : ∀ w', MapL P k w' B (putP l y u) → w.grownBy w' (some B) → w'.heap.size = w.heap.size → wpList P ops Q rest (a.put o.dst undef) w') :
    wpList P ops Q (o :: rest) a w := by
  refine wpList_plain hg fun K' hK' => ?_
  obtain ⟨w', hrun, r1, r2, r3⟩ := h.put hk ht hn y hy u
  unfold Oper.wp
  simp [execOp, hop, hm, hx, hv, hrun, Result.andThen]
  exact hK' _ _ (hK w' r1 r2 r3)
end

end Go.Proofs.YtocbogeoffeolaaGreatDoor

