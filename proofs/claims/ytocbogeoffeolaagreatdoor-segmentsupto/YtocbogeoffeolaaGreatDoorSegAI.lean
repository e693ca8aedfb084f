/-
  THE PROGRAM's COUNTS: one map with arrays of three words as keys; an entry made ready, and stored into.
  WALKS: the program's own: a run made of words.
  WALKS: the program's own: the words of a text are counted.
  WALKS: the program's own: New, Observe.
  WALKS: the program's own: the engine in memory, as far as entries go; there.
-/
import Derived.Test.YtocbogeoffeolaaGreatDoorSegAA
import Derived.Test.YtocbogeoffeolaaGreatDoorSegAB
import Derived.Test.YtocbogeoffeolaaGreatDoorSegAE
import Derived.Test.YtocbogeoffeolaaGreatDoorSegAH
import Derived.Shelf.Strings.FieldsFuncAny
import Derived.Shelf.Bits.Mul64
import Derived.Shelf.Small.Strs
import Derived.Shelf.SlSortCmp.WholeK
import Derived.Shelf.SlSortCmp.NoneTotal
import Derived.Shelf.SlGeneric
import Derived.Test.YtocbogeoffeolaaGreatDoorProg
import Derived.Maps.OwnSet
import Derived.Maps.OwnOps
import Derived.DeepKeys4
import Derived.Laws.IdiomCopy
namespace Go.Proofs.YtocbogeoffeolaaGreatDoor
open Go.RowKit Go.Maps

/-- A run as a key: what is left of it behind its words is empty. -/
def keyV (ws : List Wd) : Value := .agg #[.string ⟨(ws.getD 0 []).toArray⟩, .string ⟨(ws.getD 1 []).toArray⟩, .string ⟨(ws.getD 2 []).toArray⟩]
/-- Up to three words, none empty, none too long. -/
def IsRun (ws : List Wd) : Prop := ws.length ≤ 3 ∧ ∀ x ∈ ws, x ≠ [] ∧ x.length ≤ 24

theorem Tryz.laidOutP : laidOutB Tryz.prog = true := by kernel_rfl
theorem Tryz.wideRun : (match Tryz.prog.underlying 143 with | some (.array _ _) | some (.struct _) => true | _ => false) = true := by rw [Tryz.underlying143]
theorem Tryz.rowRun : 143 < Tryz.prog.types.size := of_decide_eq_true (by kernel_rfl)
set_option maxRecDepth 100000 in
theorem Tryz.keyedRun : Keyed Tryz.prog 143 := Keyed.of_law (deep_law_laid Tryz.laidOutP (m := 2) (by omega) Tryz.rowRun (by kernel_rfl) Tryz.wideRun)
theorem Tryz.cellsRun : Tryz.prog.cellsOf 143 = 3 := by kernel_rfl
theorem Tryz.cellsStr : Tryz.prog.cellsOf 9 = 1 := by kernel_rfl
theorem Tryz.keyTypeRun : Tryz.prog.keyType 143 = true := by kernel_rfl
theorem Tryz.zeroU64 (w : World) : (zeroValue 141).run Tryz.prog w = .ok (.int .u64 0) w := by kernel_rfl
theorem Tryz.sizePos : ∃ d, Tryz.prog.types.size = d + 1 := ⟨Tryz.prog.types.size - 1, by have := Tryz.rowRun; omega⟩

theorem lits_str (d : Nat) (s : ByteArray) (hs : s.size ≤ maxLen) : Tryz.prog.keyLits (d + 1) 9 [.string s] = some [.string s.data.toList] := by
  unfold Program.keyLits
  simp [Tryz.underlying9, hs]
theorem key_some (a b c : ByteArray) (ha : a.size ≤ maxLen) (hb : b.size ≤ maxLen) (hc : c.size ≤ maxLen) : ∃ l, keyOf Tryz.prog 143 (.agg #[.string a, .string b, .string c]) = some l := by
  obtain ⟨d, hd⟩ := Tryz.sizePos
  unfold keyOf
  rw [Tryz.underlying143]
  simp only
  rw [Tryz.keyTypeRun, hd]
  have hf : (Value.agg #[.string a, .string b, .string c]).formed Tryz.prog 143 = true := by simp [Value.formed, Tryz.underlying143, Tryz.cellsRun]
  rw [hf]
  unfold Program.keyLits
  simp [Tryz.underlying143, Tryz.cellsRun, Tryz.cellsStr, Value.cells, List.range, List.range.loop, lits_str d a ha, lits_str d b hb, lits_str d c hc]

theorem getD_len {ws : List Wd} (h : IsRun ws) (j : Nat) : (ws.getD j []).length ≤ 24 := by
  by_cases hj : j < ws.length
  · rw [List.getD_eq_getElem?_getD, List.getElem?_eq_getElem hj]
    exact (h.2 _ (List.getElem_mem hj)).2
  · rw [List.getD_eq_getElem?_getD, List.getElem?_eq_none (by omega)]
    simp
theorem size_le {ws : List Wd} (h : IsRun ws) (j : Nat) : (⟨(ws.getD j []).toArray⟩ : ByteArray).size ≤ maxLen := by
  have := getD_len h j
  show (ws.getD j []).length ≤ maxLen
  unfold maxLen
  omega
theorem key_of {ws : List Wd} (h : IsRun ws) : ∃ l, keyOf Tryz.prog 143 (keyV ws) = some l := key_some _ _ _ (size_le h 0) (size_le h 1) (size_le h 2)
theorem keyV_inj {ws ws' : List Wd} (h : IsRun ws) (h' : IsRun ws') (e : keyV ws = keyV ws') : ws = ws' := by
  unfold keyV at e
  simp only [Value.agg.injEq, Array.mk.injEq, List.cons.injEq, Value.string.injEq, ByteArray.mk.injEq, and_true] at e
  obtain ⟨e0, e1, e2⟩ := e
  obtain ⟨h1, h2⟩ := h
  obtain ⟨h1', h2'⟩ := h'
  match ws, ws' with
  | [], [] => rfl
  | [], y :: _ => have := (h2' y (by simp)).1; simp at e0; exact absurd e0 this
  | x :: _, [] => have := (h2 x (by simp)).1; simp at e0; exact absurd e0 this
  | [x], [y] => simp at e0; rw [e0]
  | [_], _ :: y :: _ => have := (h2' y (by simp)).1; simp at e1; exact absurd e1 this
  | _ :: x :: _, [_] => have := (h2 x (by simp)).1; simp at e1; exact absurd e1 this
  | [x, x'], [y, y'] => simp at e0 e1; rw [e0, e1]
  | [_, _], _ :: _ :: y :: _ => have := (h2' y (by simp)).1; simp at e2; exact absurd e2 this
  | _ :: _ :: x :: _, [_, _] => have := (h2 x (by simp)).1; simp at e2; exact absurd e2 this
  | [x, x', x''], [y, y', y''] => simp at e0 e1 e2; rw [e0, e1, e2]
  | _ :: _ :: _ :: _ :: _, _ => simp at h1
  | _, _ :: _ :: _ :: _ :: _ => simp at h1'
theorem key_ne {ws ws' : List Wd} {l l' : Lit} (h : IsRun ws) (h' : IsRun ws') (hl : keyOf Tryz.prog 143 (keyV ws) = some l) (hl' : keyOf Tryz.prog 143 (keyV ws') = some l') (hne : ws' ≠ ws) : l' ≠ l := by
  intro e
  rw [e] at hl'
  exact hne (keyV_inj h' h (Tryz.keyedRun.inj hl' hl))

/-- Block B is a map of at most n entries that says of each run how often it is counted. -/
def CntMap (w : World) (B n : Nat) (f : List Wd → Nat) : Prop :=
  ∃ D : DataW Unit, w.ownsMap Tryz.prog 143 (plainElem Tryz.prog 141) B n D ∧ ∀ ws l, IsRun ws → keyOf Tryz.prog 143 (keyV ws) = some l → D.atKey l (.lit (.int .u64 0)) = .lit (.int .u64 (f ws : Nat))

theorem CntMap.made (w : World) : CntMap (w.alloc (.map #[] 0)) w.heap.size 0 (fun _ => 0) := ⟨.map [], World.ownsMap_made _ _ _ _, fun _ _ _ _ => rfl⟩
theorem CntMap.kept {w w' : World} {B n : Nat} {f : List Wd → Nat} {row : Option Nat} (h : CntMap w B n f) (hg : w.grownBy w' row) (hne : some B ≠ row) : CntMap w' B n f := by
  obtain ⟨D, h1, h2⟩ := h
  exact ⟨D, h1.kept hg hne, h2⟩
theorem CntMap.stay {w w' : World} {B n : Nat} {f : List Wd → Nat} (h : CntMap w B n f) (hb : w'.heap[B]? = w.heap[B]?) : CntMap w' B n f := by
  obtain ⟨D, ⟨es, clock, h1, h2⟩, h3⟩ := h
  exact ⟨D, ⟨es, clock, hb.trans h1, h2⟩, h3⟩
theorem CntMap.lt {w : World} {B n : Nat} {f : List Wd → Nat} (h : CntMap w B n f) : B < w.heap.size := by
  obtain ⟨D, h1, _⟩ := h
  exact h1.lt
theorem CntMap.mono {w : World} {B n m : Nat} {f g : List Wd → Nat} (h : CntMap w B n f) (hn : n ≤ m) (hf : ∀ ws, IsRun ws → f ws = g ws) : CntMap w B m g := by
  obtain ⟨D, h1, h2⟩ := h
  exact ⟨D, h1.mono hn, fun ws l hr hl => by rw [h2 ws l hr hl, hf ws hr]⟩
theorem CntMap.below {w w' : World} {B n : Nat} {f : List Wd → Nat} (h : CntMap w B n f) (hb : Below w.heap.size w w') : CntMap w' B n f := h.stay (hb.block B h.lt)

set_option maxRecDepth 100000 in
theorem CntMap.look {w : World} {B n : Nat} {f : List Wd → Nat} (h : CntMap w B n f) {ws : List Wd} (hr : IsRun ws) : (Instr.lookup 86 (.map (some B)) (keyV ws) false).run Tryz.prog w = .ok (.int .u64 (f ws : Nat)) w := by
  obtain ⟨D, h1, h2⟩ := h
  obtain ⟨l, hl⟩ := key_of hr
  obtain ⟨c, hrun, hat, _⟩ := h1.lookup_int Tryz.keyedRun Tryz.underlying86 Tryz.underlying141 (Tryz.zeroU64 w) hl
  rw [h2 ws l hr hl] at hat
  simp only [DataW.lit.injEq, Lit.int.injEq, true_and] at hat
  rw [hrun, ← hat]
set_option maxRecDepth 100000 in
theorem CntMap.put {w : World} {B n : Nat} {f : List Wd → Nat} (h : CntMap w B n f) {ws : List Wd} (hr : IsRun ws) (hn : n < maxLen) (v : Nat) (hv : v < 18446744073709551616) :
    ∃ w', (Instr.mapUpdate 86 (.map (some B)) (keyV ws) (.int .u64 (v : Nat))).run Tryz.prog w = .ok () w' ∧ CntMap w' B (n + 1) (fun x => if x = ws then v else f x) ∧ w.grownBy w' (some B) := by
  obtain ⟨D, h1, h2⟩ := h
  have hw : (Lit.int .u64 (v : Int)).wf = true := by simp [Lit.wf, IntKind.min, IntKind.max, IntKind.bits, IntKind.signed]; omega
  obtain ⟨l, hl⟩ := key_of hr
  obtain ⟨w', hrun, ho, hg⟩ := h1.update Tryz.keyedRun Tryz.underlying86 hn hl (plainElem_int Tryz.underlying141 hw)
  refine ⟨w', hrun, ⟨_, ho, fun x lx hx hlx => ?_⟩, hg⟩
  show _ = DataW.lit (Lit.int .u64 ((if x = ws then v else f x : Nat) : Int))
  by_cases e : x = ws
  · subst e
    rw [hl] at hlx
    simp only [Option.some.injEq] at hlx
    subst hlx
    rw [if_pos rfl, atKey_put_same h1.isMap (Tryz.keyedRun.key hl)]
  · rw [if_neg e, atKey_put_other (key_ne hr hx hl hlx e)]
    exact h2 x lx hx hlx

end Go.Proofs.YtocbogeoffeolaaGreatDoor

namespace Go.Proofs.YtocbogeoffeolaaGreatDoor
open Go.RowKit Go.Maps Go.ChangeMaps Go.WideElems

/-- At this stamp lies the entry of that key. -/
def EntryAt (w : World) (B : Nat) (s : Nat) (key : Value) : Prop := ∃ (es : Array MapEntry) (clock i : Nat) (e : MapEntry), w.heap[B]? = some (.map es clock) ∧ es[i]? = some e ∧ e.key = key ∧ e.born = s

section
variable {H : Type} {P : Program} {k : TypeId} {R : Value → Option (DataW H × List MemPlace)} {es : Array MapEntry} {clock : Nat} {w : World} {t e : TypeId} {b : Nat}

theorem modify_same {es : Array MapEntry} {j : Nat} {e0 : MapEntry} (hj : es[j]? = some e0) (f g : MapEntry → MapEntry) (h : f e0 = g e0) : es.modify j f = es.modify j g := by
  apply Array.ext_getElem?
  intro i
  rw [Array.getElem?_modify, Array.getElem?_modify]
  by_cases hi : j = i
  · subst hi
    rw [if_pos rfl, if_pos rfl, hj]
    simp [h]
  · rw [if_neg hi, if_neg hi]

/-- The entry is made ready: as a store of what the look-up gives. -/
theorem run_mapEntry (K : Keyed P k) (ht : P.underlying t = some (.map k e)) {z : Value} (hz : (zeroValue e).run P w = .ok z w) (hb : w.heap[b]? = some (.map es clock)) (F : Fit P k R es clock) {key : Value} {kl : Lit} (hkey : keyOf P k key = some kl) :
    ∃ v s w', (Instr.lookup t (.map (some b)) key false).run P w = .ok v w ∧ (Instr.mapEntry t (.map (some b)) key).run P w = .ok (.tuple #[v, goInt (s : Nat)]) w' ∧ (Instr.mapUpdate t (.map (some b)) key v).run P w = .ok () w' ∧ EntryAt w' b s key := by
  rcases K.find w hkey es.toList F.keys with ⟨h1, h2⟩ | ⟨j, e0, h1, h2, h3⟩
  · refine ⟨z, clock, setBlock w b (.map (es.push ⟨key, z, clock⟩) (clock + 1)), ?_, ?_, ?_, ?_⟩
    · simp [Instr.lookup, run_underlying ht, MapKept.run_getObj_map hb, K.check w _ hkey, h1, hz, Result.andThen]
    · simp [Instr.mapEntry, run_underlying ht, MapKept.run_getObj_map hb, K.check w false hkey, h1, hz, MapKept.run_setObj_map _ hb, Result.andThen, setBlock]
    · simp [Instr.mapUpdate, run_underlying ht, MapKept.run_getObj_map hb, K.check w false hkey, h1, MapKept.run_setObj_map _ hb, Result.andThen, setBlock]
    · exact ⟨_, _, es.size, ⟨key, z, clock⟩, heap_setBlock_same hb _, by simp, rfl, rfl⟩
  · have hj : es[j]? = some e0 := by simpa using h2
    refine ⟨e0.val, e0.born, setBlock w b (.map (es.modify j fun e => { e with key := key }) clock), ?_, ?_, ?_, ?_⟩
    · simp [Instr.lookup, run_underlying ht, MapKept.run_getObj_map hb, K.check w _ hkey, h1, Result.andThen]
    · simp [Instr.mapEntry, run_underlying ht, MapKept.run_getObj_map hb, K.check w false hkey, h1, hj, h3, K.stays w hkey, MapKept.run_setObj_map _ hb, Result.andThen, setBlock]
    · rw [modify_same hj (fun e => { e with key := key }) (fun e => { e with key := key, val := e0.val }) (by simp)]
      simp [Instr.mapUpdate, run_underlying ht, MapKept.run_getObj_map hb, K.check w false hkey, h1, hj, h3, K.stays w hkey, MapKept.run_setObj_map _ hb, Result.andThen, setBlock]
    · refine ⟨_, _, j, { e0 with key := key }, heap_setBlock_same hb _, ?_, rfl, rfl⟩
      rw [Array.getElem?_modify, if_pos rfl, hj]
      first | rfl | skip

theorem born_inj {es : Array MapEntry} (hn : (es.toList.map (·.born)).Nodup) {i j : Nat} {x y : MapEntry} (hi : es[i]? = some x) (hj : es[j]? = some y) (h : x.born = y.born) : i = j := by
  have hi' : es.toList[i]? = some x := by simpa using hi
  have hj' : es.toList[j]? = some y := by simpa using hj
  obtain ⟨a1, a2⟩ := List.getElem?_eq_some_iff.1 hi'
  obtain ⟨b1, b2⟩ := List.getElem?_eq_some_iff.1 hj'
  rw [List.Nodup, List.pairwise_map] at hn
  have hp := List.pairwise_iff_getElem.1 hn
  rcases Nat.lt_trichotomy i j with hh | hh | hh
  · exact absurd (by rw [a2, b2]; exact h) (hp i j a1 b1 hh)
  · exact hh
  · exact absurd (by rw [a2, b2]; exact h.symm) (hp j i b1 a1 hh)

theorem key_inj {es : Array MapEntry} (hn : es.toList.Pairwise fun x y => x.key ≠ y.key) {i j : Nat} {x y : MapEntry} (hi : es[i]? = some x) (hj : es[j]? = some y) (h : x.key = y.key) : i = j := by
  have hi' : es.toList[i]? = some x := by simpa using hi
  have hj' : es.toList[j]? = some y := by simpa using hj
  obtain ⟨a1, a2⟩ := List.getElem?_eq_some_iff.1 hi'
  obtain ⟨b1, b2⟩ := List.getElem?_eq_some_iff.1 hj'
  have hp := List.pairwise_iff_getElem.1 hn
  rcases Nat.lt_trichotomy i j with hh | hh | hh
  · exact absurd (by rw [a2, b2]; exact h) (hp i j a1 b1 hh)
  · exact hh
  · exact absurd (by rw [a2, b2]; exact h.symm) (hp j i b1 a1 hh)

/-- Stored into the entry of that stamp: as a store at its key. -/
theorem run_entryStore (K : Keyed P k) (ht : P.underlying t = some (.map k e)) (hb : w.heap[b]? = some (.map es clock)) (F : Fit P k R es clock) {key v : Value} {kl : Lit} (hkey : keyOf P k key = some kl) {s : Nat} (hE : EntryAt w b s key) :
    ∃ w', (Instr.entryStore t (.map (some b)) (goInt (s : Nat)) v).run P w = .ok () w' ∧ (Instr.mapUpdate t (.map (some b)) key v).run P w = .ok () w' := by
  obtain ⟨es', clock', i, e0, hb', hi, hk, hs⟩ := hE
  rw [hb] at hb'
  simp only [Option.some.injEq, Obj.map.injEq] at hb'
  obtain ⟨rfl, rfl⟩ := hb'
  have hst := (MapKept.stamped_iff es clock).1 F.stamped
  have hidx : es.findIdx? (fun e => (e.born : Int) == (s : Int)) = some i := by
    obtain ⟨hil, hie⟩ := Array.getElem?_eq_some_iff.1 hi
    rw [Array.findIdx?_eq_some_iff_getElem]
    refine ⟨hil, by rw [hie]; simp [hs], fun j hj => ?_⟩
    simp only [Bool.not_eq_true, beq_eq_false_iff_ne, ne_eq]
    intro hh
    have hjl : j < es.size := by omega
    have := born_inj hst.2.1 (i := j) (j := i) (Array.getElem?_eq_getElem hjl) hi (by rw [hs]; omega)
    omega
  rcases K.find w hkey es.toList F.keys with ⟨h1, h2⟩ | ⟨j, e1, h1, h2, h3⟩
  · exact absurd hk (h2 e0 (List.mem_of_getElem? (by simpa using hi : es.toList[i]? = some e0)))
  · have hj : es[j]? = some e1 := by simpa using h2
    have hij : i = j := key_inj hst.2.2 hi hj (by rw [hk, h3])
    subst hij
    rw [hj] at hi
    simp only [Option.some.injEq] at hi
    subst hi
    refine ⟨setBlock w b (.map (es.modify i fun e => { e with val := v }) clock), ?_, ?_⟩
    · simp [Instr.entryStore, MapKept.run_getObj_map hb, asInt, asIntOf, goInt, hidx, MapKept.run_setObj_map _ hb, Result.andThen, setBlock]
    · rw [modify_same hj (fun e => { e with val := v }) (fun e => { e with key := key, val := v }) (by simp [h3])]
      simp [Instr.mapUpdate, run_underlying ht, MapKept.run_getObj_map hb, K.check w false hkey, h1, hj, h3, K.stays w hkey, MapKept.run_setObj_map _ hb, Result.andThen, setBlock]
end

set_option maxRecDepth 100000 in
theorem CntMap.entry {w : World} {B n : Nat} {f : List Wd → Nat} (h : CntMap w B n f) {ws : List Wd} (hr : IsRun ws) (hn : n < maxLen) (hv : f ws < 18446744073709551616) :
    ∃ s w', (Instr.mapEntry 86 (.map (some B)) (keyV ws)).run Tryz.prog w = .ok (.tuple #[.int .u64 (f ws : Nat), goInt (s : Nat)]) w' ∧ EntryAt w' B s (keyV ws) ∧ CntMap w' B (n + 1) f ∧ w.grownBy w' (some B) := by
  have hl := h.look hr
  obtain ⟨D, ⟨es, clock, hb, F, hs, hD⟩, h2⟩ := id h
  obtain ⟨l, hkl⟩ := key_of hr
  obtain ⟨v, s, w', g1, g2, g3, g4⟩ := run_mapEntry Tryz.keyedRun Tryz.underlying86 (Tryz.zeroU64 w) hb F hkl
  rw [hl] at g1
  simp only [Result.ok.injEq, and_true] at g1
  subst g1
  obtain ⟨w'', p1, p2, p3⟩ := h.put hr hn (f ws) hv
  rw [g3] at p1
  simp only [Result.ok.injEq, true_and] at p1
  subst p1
  refine ⟨s, w', g2, g4, p2.mono (Nat.le_refl _) (fun x _ => ?_), p3⟩
  show (if x = ws then f ws else f x) = f x
  by_cases e : x = ws
  · subst e; simp
  · rw [if_neg e]

set_option maxRecDepth 100000 in
theorem CntMap.store {w : World} {B n : Nat} {f : List Wd → Nat} (h : CntMap w B n f) {ws : List Wd} (hr : IsRun ws) (hn : n < maxLen) {s : Nat} (hE : EntryAt w B s (keyV ws)) (v : Nat) (hv : v < 18446744073709551616) :
    ∃ w', (Instr.entryStore 86 (.map (some B)) (goInt (s : Nat)) (.int .u64 (v : Nat))).run Tryz.prog w = .ok () w' ∧ CntMap w' B (n + 1) (fun x => if x = ws then v else f x) ∧ w.grownBy w' (some B) := by
  obtain ⟨D, ⟨es, clock, hb, F, hs, hD⟩, h2⟩ := id h
  obtain ⟨l, hkl⟩ := key_of hr
  obtain ⟨w', g1, g2⟩ := run_entryStore (v := .int .u64 (v : Nat)) Tryz.keyedRun Tryz.underlying86 hb F hkl hE
  obtain ⟨w'', p1, p2, p3⟩ := h.put hr hn v hv
  rw [g2] at p1
  simp only [Result.ok.injEq, true_and] at p1
  subst p1
  exact ⟨w', g1, p2, p3⟩

end Go.Proofs.YtocbogeoffeolaaGreatDoor

namespace Go.Proofs.YtocbogeoffeolaaGreatDoor
open Go.RowKit Go.Maps

theorem heap_new (w : World) (o : Obj) : (w.alloc o).heap[w.heap.size]? = some o := by simp [World.alloc, -World.alloc_eq]
end Go.Proofs.YtocbogeoffeolaaGreatDoor

namespace Go.Proofs.YtocbogeoffeolaaGreatDoor
open Go.RowKit Go.Maps

/-- Texts whose words are words. -/
def OkT (ts : List (List Wd)) : Prop := ∀ t ∈ ts, ∀ x ∈ t, x ≠ [] ∧ x.length ≤ 24

/-- The program's engine, as far as words go: its two other fields are as they are. -/
structure PW (w : World) (F : Nat → Prop) (b : Nat) (vB vS : Value) (ts : List (List Wd)) (B n : Nat) (vK : Value) (kn : List Wd) : Prop where
  blk : w.heap[b]? = some (.cells #[vB, vS, .map (some B), vK] 90 (0, 0))
  fb : F b
  fB : F B
  cnt : CntMap w B n (cntW ts)
  room : n ≤ 8 * bulkT ts
  row : w.ownsRow 0 9 1 vK kn.length (strVals kn)
  frow : ∀ k, vK.ownBlock = some k → F k
  perm : kn.Perm (knownL ts)
  ok : OkT ts
  few : kn.length ≤ 60

theorem PW.known {w : World} {F : Nat → Prop} {b : Nat} {vB vS : Value} {ts : List (List Wd)} {B n : Nat} {vK : Value} {kn : List Wd} (h : PW w F b vB vS ts B n vK kn) (x : Wd) : cntW ts [x] = 0 ↔ x ∉ kn := by
  rw [known_cnt, h.perm.mem_iff]

end Go.Proofs.YtocbogeoffeolaaGreatDoor

namespace Go.Proofs.YtocbogeoffeolaaGreatDoor
open Go.RowKit Go.Maps

theorem PW.stay {w w' : World} {F : Nat → Prop} {b : Nat} {vB vS : Value} {ts : List (List Wd)} {B n : Nat} {vK : Value} {kn : List Wd} (h : PW w F b vB vS ts B n vK kn) (hb : ∀ k, F k → w'.heap[k]? = w.heap[k]?) : PW w' F b vB vS ts B n vK kn where
  blk := by rw [hb b h.fb]; exact h.blk
  fb := h.fb
  fB := h.fB
  cnt := h.cnt.stay (hb B h.fB)
  room := h.room
  row := owns_stay h.row (fun k hk => hb k (h.frow k hk))
  frow := h.frow
  perm := h.perm
  ok := h.ok
  few := h.few

set_option maxHeartbeats 400000 in
set_option maxRecDepth 100000 in
theorem none_any (w : World) : Calls Tryz.prog 64 #[] w fun e w' => ∃ B : Nat, e = .returned (.agg #[.map (some B), .slice none 0 0]) ∧ w.heap.size ≤ B ∧ CntMap w' B 0 (fun _ => 0) ∧ Below w.heap.size w w' := by
  have hmm := @run_makeMap Tryz.prog
  go_enter Tryz.func64, Tryz.ntmps64
  go_wp2
  refine bodyPost_ret (v := .agg #[.map (some (w.heap.size + 1)), .slice none 0 0]) (by simp [results, Tryz.results64, go_sem]) rfl ⟨_, rfl, by omega, ?_, ((Below.refl _ _).alloc (Nat.le_refl _) _).alloc (by simp) _⟩
  have h := CntMap.made (w.alloc (.cells #[.map (some (w.heap.size + 1)), .slice none 0 0] 88))
  have e : (w.alloc (.cells #[.map (some (w.heap.size + 1)), .slice none 0 0] 88)).heap.size = w.heap.size + 1 := by simp
  rw [e] at h
  exact h

end Go.Proofs.YtocbogeoffeolaaGreatDoor

namespace Go.Proofs.YtocbogeoffeolaaGreatDoor
open Go.RowKit Go.Maps

theorem Tryz.infoLay : (Tryz.prog.info? 85).map (fun i => (i.zero, i.size, i.bytes)) = some (some (.map none), 1, 8) := by kernel_rfl

/-- The program's engine: buffer and segments; whatever its words are. -/
structure PEn (w : World) (F : Nat → Prop) (b : Nat) (buf : List Ent) (ss : List (List Ent)) (Bb : Nat) (vS vM vK : Value) : Prop where
  blk : w.heap[b]? = some (.cells #[.map (some Bb), vS, vM, vK] 90 (0, 0))
  fb : F b
  fB : F Bb
  say : SayM w Bb buf
  row : w.ownsRow 0 9 1 vS ss.length (strVals (ss.map packC))
  frow : ∀ k, vS.ownBlock = some k → F k
  inv : Inv buf ss

theorem own_map_ne {w : World} {base e n : Nat} {v : Value} {xs : List Value} (ho : w.ownsRow base e 1 v n xs) {P : Program} {k : TypeId} {B : Nat} {l : List (Wd × Value)} (hm : MapL P k w B l) : some B ≠ v.ownBlock := by
  rcases ho.2 with ⟨rfl, _⟩ | ⟨g, cap, cur, rfl, _, hg, _⟩
  · simp [Value.ownBlock]
  · intro he
    simp only [Value.ownBlock, Option.some.injEq] at he
    exact hm.cells_ne hg he
theorem inv_buf {buf : List Ent} {ss : List (List Ent)} (h : Inv buf ss) : buf.length ≤ 130 := by
  have h1 := gone_count buf
  have h2 := h.gone
  have h3 := h.all
  rw [there_eq, foldO_snoc] at h3
  have h4 := living_le_over (foldO ss) buf
  have := living_le buf
  omega
theorem segs_bulk (ss : List (List Ent)) (h : ∀ s ∈ ss, OkSeg s) : bulkS ss ≤ ss.length * 131 := by
  induction ss with
  | nil => simp [bulkS]
  | cons s ss ih =>
    have h1 := ih (fun x hx => h x (List.mem_cons_of_mem _ hx))
    have h2 := okseg_len (h s (List.mem_cons_self ..))
    simp only [bulkS, List.map_cons, List.sum_cons, List.length_cons] at h1 ⊢
    omega
theorem bulk_append (a b : List (List Ent)) : bulkS (a ++ b) = bulkS a + bulkS b := by simp [bulkS]
theorem inv_bulk {buf : List Ent} {ss : List (List Ent)} (h : Inv buf ss) : bulkS (ss ++ [buf]) ≤ 1000 := by
  have h1 := segs_bulk ss h.segs
  have h2 := h.few
  have h3 := inv_buf h
  rw [bulk_append]
  have : bulkS [buf] = buf.length + 1 := by simp [bulkS]
  omega
theorem inv_short {buf : List Ent} {ss : List (List Ent)} (h : Inv buf ss) : ∀ l ∈ ss ++ [buf], ∀ e ∈ l, e.name.length ≤ maxLen := by
  intro l hl e he
  rcases List.mem_append.1 hl with h1 | h1
  · exact okseg_short (h.segs l h1) e he
  · simp only [List.mem_singleton] at h1
    subst h1
    have := (name_len (okG_name (h.each e he))).2
    unfold maxLen
    omega
theorem foldO_short {ls : List (List Ent)} (h : ∀ l ∈ ls, ∀ e ∈ l, e.name.length ≤ maxLen) : ∀ e ∈ foldO ls, e.name.length ≤ maxLen := by
  have : ∀ (ls : List (List Ent)) (a : List Ent), (∀ e ∈ a, e.name.length ≤ maxLen) → (∀ l ∈ ls, ∀ e ∈ l, e.name.length ≤ maxLen) → ∀ e ∈ ls.foldl overL a, e.name.length ≤ maxLen := by
    intro ls
    induction ls with
    | nil => intro a ha _ e he; exact ha e he
    | cons l ls ih =>
      intro a ha hl e he
      refine ih (overL a l) (fun x hx => ?_) (fun m hm => hl m (List.mem_cons_of_mem _ hm)) e he
      rcases over_mem.1 hx with h1 | h1
      · exact ha x h1.1
      · exact hl l (List.mem_cons_self ..) x h1
  exact this ls [] (fun _ h => by simp at h) h

set_option maxHeartbeats 2000000 in
set_option maxRecDepth 100000 in
theorem pthere_any (F : Nat → Prop) (b : Nat) (buf : List Ent) (ss : List (List Ent)) (Bb : Nat) (vS vM vK : Value) (w : World) (h : PEn w F b buf ss Bb vS vM vK) :
    Calls Tryz.prog 59 #[.pointer (some ⟨b, 0, none⟩)] w fun en w' => ∃ C, en = .returned (.map (some C)) ∧ w.heap.size ≤ C ∧ SayM w' C (thereL ss buf) ∧ Below w.heap.size w w' := by
  obtain ⟨i0, hi, hz0, hz1, hz2⟩ := info_parts Tryz.infoLay
  obtain ⟨aS, cS, rfl, hcS⟩ := owns_slice h.row
  have hrd := Rd.of_owns h.row
  have hc0 : w.cell? ⟨b, 0, none⟩ = some (.map (some Bb)) := by rw [cell_of_heap h.blk]; rfl
  have hc1 : w.cell? ⟨b, 1, none⟩ = some (.slice aS ss.length cS) := by rw [cell_of_heap h.blk]; rfl
  have h6 := h.inv.few
  have HR : Hid (∀ j (hj : j < ss.length), ∃ bb off, aS = some ⟨bb, off, none⟩ ∧ w.cell? ⟨bb, off + j, none⟩ = some (.string ⟨(packC ss[j]).toArray⟩)) := by
    intro j hj
    obtain ⟨a', c', he, _, _, hr⟩ := hrd
    simp only [Value.slice.injEq] at he
    obtain ⟨rfl, _, rfl⟩ := he
    exact hr j _ (by simp [strVals, hj])
  have HP : Hid (PEn w F b buf ss Bb (.slice aS ss.length cS) vM vK) := h
  clear h hrd
  go_enter Tryz.func59, Tryz.ntmps59
  go_wp2
  go_loopw [3, 11] (fun v i wr => ∃ (k : Nat) (Cs : List Nat), k ≤ ss.length ∧ i = .int .i64 k ∧ Cs.length = k ∧ wr.ownsRow w.heap.size 85 1 v k (Cs.map mapV) ∧ (∀ i (h : i < k) (h' : i < Cs.length) (h2 : i < ss.length), SayM wr Cs[i] ss[i] ∧ w.heap.size ≤ Cs[i]) ∧ Below w.heap.size w wr) (fun _ i _ => ss.length - (intOf i).toNat)
  case atStart => exact ⟨0, [], Nat.zero_le _, rfl, rfl, World.ownsRow_nil _ _ _ _, fun i h => by omega, Below.refl _ _⟩
  case round =>
    obtain ⟨k, Cs, hk, rfl, hCl, hown, heach, hb⟩ := hrel
    have HB : Hid (Below w.heap.size w wr) := hb
    have hz := hb.size
    have HE : Hid (∀ i (h : i < k) (h' : i < Cs.length) (h2 : i < ss.length), SayM wr Cs[i] ss[i] ∧ w.heap.size ≤ Cs[i]) := heach
    clear heach hb
    by_cases hlt : k < ss.length
    · obtain ⟨bb, off, rfl, hcell⟩ := HR.out k hlt
      have hc := cell_later HB.out hcell
      have hun := unpackOwn_any ss[k] wr (HP.out.inv.segs _ (List.getElem_mem hlt))
      clear hcell
      go_wp2_with fail
      refine hun.mono ?_
      rintro e w1 ⟨C, rfl, hC, hs, hb1⟩
      have hz1' := hb1.size
      have hown1 : w1.ownsRow w.heap.size 85 1 _ k (Cs.map mapV) := owns_stay hown (fun j hj => hb1.block j (hown.lt j hj).2)
      have HS1 : Hid (SayM w1 C ss[k] ∧ wr.heap.size ≤ C) := ⟨hs, hC⟩
      have HB1 : Hid (Below w.heap.size w w1) := HB.out.trans (hb1.mono hz)
      have HBr : Hid (Below wr.heap.size wr w1) := hb1
      clear hun hs hb1
      go_wp2_with (first
        | (at_builtin; refine wpList_append_one _ rfl _ _ 136 rfl w.heap.size 85 i0 (.map none) 8 Tryz.underlying136 hi hz0 hz1 hz2 rfl _ _ _ rfl (hown1.alloc _) ⟨w1.heap.size, 0, none⟩ _ rfl cell_new rfl ?c1 ?c2 ?c3 ?_))
      case c1 => omega
      case c2 => unfold maxLen; omega
      case c3 => first | omega | (simp; omega)
      intro v' w2 hown' hgrow _
      have HW2 : Hid (w2.ownsRow w.heap.size 85 1 v' (k + 1) ((Cs ++ [C]).map mapV)) := by
        show w2.ownsRow _ _ _ _ _ _
        rw [List.map_append]
        exact hown'
      have HB2 : Hid (Below w.heap.size w w2) := (HB1.out.alloc (by omega) _).grown hgrow (by simp; omega) (fun b hb => (hown.lt b hb).1)
      have HE2 : Hid (∀ i (h : i < k + 1) (h' : i < (Cs ++ [C]).length) (h2 : i < ss.length), SayM w2 (Cs ++ [C])[i] ss[i] ∧ w.heap.size ≤ (Cs ++ [C])[i]) := by
        intro i h h' h2
        have key : ∀ (D : Nat) (l : List Ent), SayM w1 D l → SayM w2 D l := fun D l hm => by
          have hm' : SayM (w1.alloc (.cells #[.map (some C)] 85)) D l := MapL.kept hm (World.grownBy_alloc _ _ none) (by simp)
          exact MapL.kept hm' hgrow (own_map_ne (hown1.alloc _) hm')
        by_cases hik : i < k
        · rw [List.getElem_append_left (by omega)]
          have hh := HE.out i hik (by omega) h2
          exact ⟨key _ _ (MapL.below hh.1 HBr.out), hh.2⟩
        · have hik' : i = k := by omega
          subst hik'
          rw [List.getElem_append_right (by omega)]
          simp only [hCl, Nat.sub_self, List.getElem_cons_zero]
          exact ⟨key _ _ HS1.out.1, Nat.le_trans hz HS1.out.2⟩
      obtain ⟨a', c', rfl, hc'⟩ := owns_slice HW2.out
      clear hown' hgrow hown hown1
      go_wp2
      go_roundw
      case rel => exact ⟨k + 1, Cs ++ [C], by omega, by go_num, by simp [hCl], HW2.out, HE2.out, HB2.out⟩
      case measure => simp [intOf]; omega
    · have hkl : k = ss.length := by omega
      subst hkl
      have hc0' := cell_later HB.out hc0
      go_wp2_with (first
        | (at_builtin; refine wpList_append_one _ rfl _ _ 136 rfl w.heap.size 85 i0 (.map none) 8 Tryz.underlying136 hi hz0 hz1 hz2 rfl _ _ _ rfl (hown.alloc _) ⟨wr.heap.size, 0, none⟩ _ rfl cell_new rfl ?c1 ?c2 ?c3 ?_))
      case c1 => omega
      case c2 => unfold maxLen; omega
      case c3 => first | omega | (simp; omega)
      intro v' w2 hown' hgrow _
      have hB2 : Below w.heap.size w w2 := (HB.out.alloc hz _).grown hgrow (by simp; omega) (fun b hb => (hown.lt b hb).1)
      have hLR : LaysR w2 v' (Cs ++ [Bb]) (ss ++ [buf]) := by
        refine ⟨?_, by simp [hCl], fun i h h' => ?_⟩
        · rw [List.map_append]
          exact Rd.of_owns hown'
        · have key : ∀ (D : Nat) (l : List Ent), SayM wr D l → SayM w2 D l := fun D l hm => by
            have hm' : SayM (wr.alloc (.cells #[.map (some Bb)] 85)) D l := MapL.kept hm (World.grownBy_alloc _ _ none) (by simp)
            exact MapL.kept hm' hgrow (own_map_ne (hown.alloc _) hm')
          by_cases hik : i < ss.length
          · have e1 : (Cs ++ [Bb])[i] = Cs[i]'(by omega) := List.getElem_append_left (by omega)
            have e2 : (ss ++ [buf])[i] = ss[i] := List.getElem_append_left hik
            rw [e1, e2]
            exact key _ _ (HE.out i hik (by omega) hik).1
          · have hi' : i = ss.length := by simp at h; omega
            subst hi'
            have h9 := h'
            have e1 : (Cs ++ [Bb])[ss.length]'h9 = Bb := by rw [List.getElem_append_right (by omega)]; simp [hCl]
            have e2 : (ss ++ [buf])[ss.length]'h = buf := by rw [List.getElem_append_right (by omega)]; simp
            rw [e1, e2]
            exact key _ _ (MapL.below HP.out.say HB.out)
      have hbk := inv_bulk HP.out.inv
      have hsh := inv_short HP.out.inv
      have hmg := lmerge_any v' (Cs ++ [Bb]) (ss ++ [buf]) w2 hLR (by omega) hsh
      have HB2 : Hid (Below w.heap.size w w2) := hB2
      have HSH : Hid (∀ l ∈ ss ++ [buf], ∀ e ∈ l, e.name.length ≤ maxLen) := hsh
      have HBK : Hid ((foldO (ss ++ [buf])).length ≤ 1000) := by
        show _ ≤ _
        have := foldO_len (ss ++ [buf]) (ss ++ [buf]).length (Nat.le_refl _)
        rw [List.take_length] at this
        omega
      clear hown' hgrow hown hLR hB2 hsh hbk
      go_wp2_with fail
      refine hmg.mono ?_
      rintro e w3 ⟨B3, rfl, hB3, hs3, hb3⟩
      have hwi := without_any B3 (foldO (ss ++ [buf])) w3 hs3 (by have := HBK.out; omega) (foldO_short HSH.out)
      have HB3 : Hid (Below w.heap.size w w3) := HB2.out.trans (hb3.mono HB2.out.size)
      clear hmg hs3 hb3
      go_wp2_with fail
      refine hwi.mono ?_
      rintro e w4 ⟨C, rfl, hC, hs4, hb4⟩
      have HS4 : Hid (SayM w4 C (thereL ss buf)) := by show SayM _ _ _; rw [there_eq]; exact hs4
      have HB4 : Hid (Below w.heap.size w w4) := HB3.out.trans (hb4.mono HB3.out.size)
      have hC' : w.heap.size ≤ C := Nat.le_trans HB3.out.size hC
      clear hwi hs4 hb4
      go_wp2
      go_ret
      exact ⟨C, rfl, hC', HS4.out, HB4.out⟩

end Go.Proofs.YtocbogeoffeolaaGreatDoor

