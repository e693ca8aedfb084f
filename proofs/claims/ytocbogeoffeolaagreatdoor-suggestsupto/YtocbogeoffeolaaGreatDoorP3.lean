/-
  THE PROGRAM's COUNTS: one map with arrays of three words as keys; an entry made ready, and stored into.
-/
import Derived.Test.YtocbogeoffeolaaGreatDoorP2
import Derived.Test.YtocbogeoffeolaaGreatDoorMaths
import Derived.Maps.OwnSet
import Derived.Maps.OwnOps
import Derived.DeepKeys4
import Derived.Laws.IdiomCopy
namespace Go.Proofs.YtocbogeoffeolaaGreatDoor
open Go.RowKit Go.Maps

/-- A run as a key: what is left of it behind its words is empty. -/
def keyV (ws : List Wd) : Value := .agg #[.string ⟨(ws.getD 0 []).toArray⟩, .string ⟨(ws.getD 1 []).toArray⟩, .string ⟨(ws.getD 2 []).toArray⟩]
/-- Up to three words, none empty, none too long. -/
def IsRun (ws : List Wd) : Prop := ws.length ≤ 3 ∧ ∀ x ∈ ws, x ≠ [] ∧ x.length ≤ 24

theorem Tryz.laidOutP : laidOutB Tryz.prog = true := by kernel_rfl
theorem Tryz.wideRun : (match Tryz.prog.underlying 143 with | some (.array _ _) | some (.struct _) => true | _ => false) = true := by rw [Tryz.underlying143]
theorem Tryz.rowRun : 143 < Tryz.prog.types.size := of_decide_eq_true (by kernel_rfl)
set_option maxRecDepth 100000 in
theorem Tryz.keyedRun : Keyed Tryz.prog 143 := Keyed.of_law (deep_law_laid Tryz.laidOutP (m := 2) (by omega) Tryz.rowRun (by kernel_rfl) Tryz.wideRun)
theorem Tryz.cellsRun : Tryz.prog.cellsOf 143 = 3 := by kernel_rfl
theorem Tryz.cellsStr : Tryz.prog.cellsOf 9 = 1 := by kernel_rfl
theorem Tryz.keyTypeRun : Tryz.prog.keyType 143 = true := by kernel_rfl
theorem Tryz.zeroU64 (w : World) : (zeroValue 141).run Tryz.prog w = .ok (.int .u64 0) w := by kernel_rfl
theorem Tryz.sizePos : ∃ d, Tryz.prog.types.size = d + 1 := ⟨Tryz.prog.types.size - 1, by have := Tryz.rowRun; omega⟩

theorem lits_str (d : Nat) (s : ByteArray) (hs : s.size ≤ maxLen) : Tryz.prog.keyLits (d + 1) 9 [.string s] = some [.string s.data.toList] := by
  unfold Program.keyLits
  simp [Tryz.underlying9, hs]
theorem key_some (a b c : ByteArray) (ha : a.size ≤ maxLen) (hb : b.size ≤ maxLen) (hc : c.size ≤ maxLen) : ∃ l, keyOf Tryz.prog 143 (.agg #[.string a, .string b, .string c]) = some l := by
  obtain ⟨d, hd⟩ := Tryz.sizePos
  unfold keyOf
  rw [Tryz.underlying143]
  simp only
  rw [Tryz.keyTypeRun, hd]
  have hf : (Value.agg #[.string a, .string b, .string c]).formed Tryz.prog 143 = true := by simp [Value.formed, Tryz.underlying143, Tryz.cellsRun]
  rw [hf]
  unfold Program.keyLits
  simp [Tryz.underlying143, Tryz.cellsRun, Tryz.cellsStr, Value.cells, List.range, List.range.loop, lits_str d a ha, lits_str d b hb, lits_str d c hc]

theorem getD_len {ws : List Wd} (h : IsRun ws) (j : Nat) : (ws.getD j []).length ≤ 24 := by
  by_cases hj : j < ws.length
  · rw [List.getD_eq_getElem?_getD, List.getElem?_eq_getElem hj]
    exact (h.2 _ (List.getElem_mem hj)).2
  · rw [List.getD_eq_getElem?_getD, List.getElem?_eq_none (by omega)]
    simp
theorem size_le {ws : List Wd} (h : IsRun ws) (j : Nat) : (⟨(ws.getD j []).toArray⟩ : ByteArray).size ≤ maxLen := by
  have := getD_len h j
  show (ws.getD j []).length ≤ maxLen
  unfold maxLen
  omega
theorem key_of {ws : List Wd} (h : IsRun ws) : ∃ l, keyOf Tryz.prog 143 (keyV ws) = some l := key_some _ _ _ (size_le h 0) (size_le h 1) (size_le h 2)
theorem keyV_inj {ws ws' : List Wd} (h : IsRun ws) (h' : IsRun ws') (e : keyV ws = keyV ws') : ws = ws' := by
  unfold keyV at e
  simp only [Value.agg.injEq, Array.mk.injEq, List.cons.injEq, Value.string.injEq, ByteArray.mk.injEq, and_true] at e
  obtain ⟨e0, e1, e2⟩ := e
  obtain ⟨h1, h2⟩ := h
  obtain ⟨h1', h2'⟩ := h'
  match ws, ws' with
  | [], [] => rfl
  | [], y :: _ => have := (h2' y (by simp)).1; simp at e0; exact absurd e0 this
  | x :: _, [] => have := (h2 x (by simp)).1; simp at e0; exact absurd e0 this
  | [x], [y] => simp at e0; rw [e0]
  | [_], _ :: y :: _ => have := (h2' y (by simp)).1; simp at e1; exact absurd e1 this
  | _ :: x :: _, [_] => have := (h2 x (by simp)).1; simp at e1; exact absurd e1 this
  | [x, x'], [y, y'] => simp at e0 e1; rw [e0, e1]
  | [_, _], _ :: _ :: y :: _ => have := (h2' y (by simp)).1; simp at e2; exact absurd e2 this
  | _ :: _ :: x :: _, [_, _] => have := (h2 x (by simp)).1; simp at e2; exact absurd e2 this
  | [x, x', x''], [y, y', y''] => simp at e0 e1 e2; rw [e0, e1, e2]
  | _ :: _ :: _ :: _ :: _, _ => simp at h1
  | _, _ :: _ :: _ :: _ :: _ => simp at h1'
theorem key_ne {ws ws' : List Wd} {l l' : Lit} (h : IsRun ws) (h' : IsRun ws') (hl : keyOf Tryz.prog 143 (keyV ws) = some l) (hl' : keyOf Tryz.prog 143 (keyV ws') = some l') (hne : ws' ≠ ws) : l' ≠ l := by
  intro e
  rw [e] at hl'
  exact hne (keyV_inj h' h (Tryz.keyedRun.inj hl' hl))

/-- Block B is a map of at most n entries that says of each run how often it is counted. -/
def CntMap (w : World) (B n : Nat) (f : List Wd → Nat) : Prop :=
  ∃ D : DataW Unit, w.ownsMap Tryz.prog 143 (plainElem Tryz.prog 141) B n D ∧ ∀ ws l, IsRun ws → keyOf Tryz.prog 143 (keyV ws) = some l → D.atKey l (.lit (.int .u64 0)) = .lit (.int .u64 (f ws : Nat))

theorem CntMap.made (w : World) : CntMap (w.alloc (.map #[] 0)) w.heap.size 0 (fun _ => 0) := ⟨.map [], World.ownsMap_made _ _ _ _, fun _ _ _ _ => rfl⟩
theorem CntMap.kept {w w' : World} {B n : Nat} {f : List Wd → Nat} {row : Option Nat} (h : CntMap w B n f) (hg : w.grownBy w' row) (hne : some B ≠ row) : CntMap w' B n f := by
  obtain ⟨D, h1, h2⟩ := h
  exact ⟨D, h1.kept hg hne, h2⟩
theorem CntMap.stay {w w' : World} {B n : Nat} {f : List Wd → Nat} (h : CntMap w B n f) (hb : w'.heap[B]? = w.heap[B]?) : CntMap w' B n f := by
  obtain ⟨D, ⟨es, clock, h1, h2⟩, h3⟩ := h
  exact ⟨D, ⟨es, clock, hb.trans h1, h2⟩, h3⟩
theorem CntMap.lt {w : World} {B n : Nat} {f : List Wd → Nat} (h : CntMap w B n f) : B < w.heap.size := by
  obtain ⟨D, h1, _⟩ := h
  exact h1.lt
theorem CntMap.mono {w : World} {B n m : Nat} {f g : List Wd → Nat} (h : CntMap w B n f) (hn : n ≤ m) (hf : ∀ ws, IsRun ws → f ws = g ws) : CntMap w B m g := by
  obtain ⟨D, h1, h2⟩ := h
  exact ⟨D, h1.mono hn, fun ws l hr hl => by rw [h2 ws l hr hl, hf ws hr]⟩
theorem CntMap.below {w w' : World} {B n : Nat} {f : List Wd → Nat} (h : CntMap w B n f) (hb : Below w.heap.size w w') : CntMap w' B n f := h.stay (hb.block B h.lt)

set_option maxRecDepth 100000 in
theorem CntMap.look {w : World} {B n : Nat} {f : List Wd → Nat} (h : CntMap w B n f) {ws : List Wd} (hr : IsRun ws) : (Instr.lookup 86 (.map (some B)) (keyV ws) false).run Tryz.prog w = .ok (.int .u64 (f ws : Nat)) w := by
  obtain ⟨D, h1, h2⟩ := h
  obtain ⟨l, hl⟩ := key_of hr
  obtain ⟨c, hrun, hat, _⟩ := h1.lookup_int Tryz.keyedRun Tryz.underlying86 Tryz.underlying141 (Tryz.zeroU64 w) hl
  rw [h2 ws l hr hl] at hat
  simp only [DataW.lit.injEq, Lit.int.injEq, true_and] at hat
  rw [hrun, ← hat]
set_option maxRecDepth 100000 in
theorem CntMap.put {w : World} {B n : Nat} {f : List Wd → Nat} (h : CntMap w B n f) {ws : List Wd} (hr : IsRun ws) (hn : n < maxLen) (v : Nat) (hv : v < 18446744073709551616) :
    ∃ w', (Instr.mapUpdate 86 (.map (some B)) (keyV ws) (.int .u64 (v : Nat))).run Tryz.prog w = .ok () w' ∧ CntMap w' B (n + 1) (fun x => if x = ws then v else f x) ∧ w.grownBy w' (some B) := by
  obtain ⟨D, h1, h2⟩ := h
  have hw : (Lit.int .u64 (v : Int)).wf = true := by simp [Lit.wf, IntKind.min, IntKind.max, IntKind.bits, IntKind.signed]; omega
  obtain ⟨l, hl⟩ := key_of hr
  obtain ⟨w', hrun, ho, hg⟩ := h1.update Tryz.keyedRun Tryz.underlying86 hn hl (plainElem_int Tryz.underlying141 hw)
  refine ⟨w', hrun, ⟨_, ho, fun x lx hx hlx => ?_⟩, hg⟩
  show _ = DataW.lit (Lit.int .u64 ((if x = ws then v else f x : Nat) : Int))
  by_cases e : x = ws
  · subst e
    rw [hl] at hlx
    simp only [Option.some.injEq] at hlx
    subst hlx
    rw [if_pos rfl, atKey_put_same h1.isMap (Tryz.keyedRun.key hl)]
  · rw [if_neg e, atKey_put_other (key_ne hr hx hl hlx e)]
    exact h2 x lx hx hlx

end Go.Proofs.YtocbogeoffeolaaGreatDoor

namespace Go.Proofs.YtocbogeoffeolaaGreatDoor
open Go.RowKit Go.Maps Go.ChangeMaps Go.WideElems

/-- At this stamp lies the entry of that key. -/
def EntryAt (w : World) (B : Nat) (s : Nat) (key : Value) : Prop := ∃ (es : Array MapEntry) (clock i : Nat) (e : MapEntry), w.heap[B]? = some (.map es clock) ∧ es[i]? = some e ∧ e.key = key ∧ e.born = s

section
variable {H : Type} {P : Program} {k : TypeId} {R : Value → Option (DataW H × List MemPlace)} {es : Array MapEntry} {clock : Nat} {w : World} {t e : TypeId} {b : Nat}

theorem modify_same {es : Array MapEntry} {j : Nat} {e0 : MapEntry} (hj : es[j]? = some e0) (f g : MapEntry → MapEntry) (h : f e0 = g e0) : es.modify j f = es.modify j g := by
  apply Array.ext_getElem?
  intro i
  rw [Array.getElem?_modify, Array.getElem?_modify]
  by_cases hi : j = i
  · subst hi
    rw [if_pos rfl, if_pos rfl, hj]
    simp [h]
  · rw [if_neg hi, if_neg hi]

/-- The entry is made ready: as a store of what the look-up gives. -/
theorem run_mapEntry (K : Keyed P k) (ht : P.underlying t = some (.map k e)) {z : Value} (hz : (zeroValue e).run P w = .ok z w) (hb : w.heap[b]? = some (.map es clock)) (F : Fit P k R es clock) {key : Value} {kl : Lit} (hkey : keyOf P k key = some kl) :
    ∃ v s w', (Instr.lookup t (.map (some b)) key false).run P w = .ok v w ∧ (Instr.mapEntry t (.map (some b)) key).run P w = .ok (.tuple #[v, goInt (s : Nat)]) w' ∧ (Instr.mapUpdate t (.map (some b)) key v).run P w = .ok () w' ∧ EntryAt w' b s key := by
  rcases K.find w hkey es.toList F.keys with ⟨h1, h2⟩ | ⟨j, e0, h1, h2, h3⟩
  · refine ⟨z, clock, setBlock w b (.map (es.push ⟨key, z, clock⟩) (clock + 1)), ?_, ?_, ?_, ?_⟩
    · simp [Instr.lookup, run_underlying ht, MapKept.run_getObj_map hb, K.check w _ hkey, h1, hz, Result.andThen]
    · simp [Instr.mapEntry, run_underlying ht, MapKept.run_getObj_map hb, K.check w false hkey, h1, hz, MapKept.run_setObj_map _ hb, Result.andThen, setBlock]
    · simp [Instr.mapUpdate, run_underlying ht, MapKept.run_getObj_map hb, K.check w false hkey, h1, MapKept.run_setObj_map _ hb, Result.andThen, setBlock]
    · exact ⟨_, _, es.size, ⟨key, z, clock⟩, heap_setBlock_same hb _, by simp, rfl, rfl⟩
  · have hj : es[j]? = some e0 := by simpa using h2
    refine ⟨e0.val, e0.born, setBlock w b (.map (es.modify j fun e => { e with key := key }) clock), ?_, ?_, ?_, ?_⟩
    · simp [Instr.lookup, run_underlying ht, MapKept.run_getObj_map hb, K.check w _ hkey, h1, Result.andThen]
    · simp [Instr.mapEntry, run_underlying ht, MapKept.run_getObj_map hb, K.check w false hkey, h1, hj, h3, K.stays w hkey, MapKept.run_setObj_map _ hb, Result.andThen, setBlock]
    · rw [modify_same hj (fun e => { e with key := key }) (fun e => { e with key := key, val := e0.val }) (by simp)]
      simp [Instr.mapUpdate, run_underlying ht, MapKept.run_getObj_map hb, K.check w false hkey, h1, hj, h3, K.stays w hkey, MapKept.run_setObj_map _ hb, Result.andThen, setBlock]
    · refine ⟨_, _, j, { e0 with key := key }, heap_setBlock_same hb _, ?_, rfl, rfl⟩
      rw [Array.getElem?_modify, if_pos rfl, hj]
      first | rfl | skip

theorem born_inj {es : Array MapEntry} (hn : (es.toList.map (·.born)).Nodup) {i j : Nat} {x y : MapEntry} (hi : es[i]? = some x) (hj : es[j]? = some y) (h : x.born = y.born) : i = j := by
  have hi' : es.toList[i]? = some x := by simpa using hi
  have hj' : es.toList[j]? = some y := by simpa using hj
  obtain ⟨a1, a2⟩ := List.getElem?_eq_some_iff.1 hi'
  obtain ⟨b1, b2⟩ := List.getElem?_eq_some_iff.1 hj'
  rw [List.Nodup, List.pairwise_map] at hn
  have hp := List.pairwise_iff_getElem.1 hn
  rcases Nat.lt_trichotomy i j with hh | hh | hh
  · exact absurd (by rw [a2, b2]; exact h) (hp i j a1 b1 hh)
  · exact hh
  · exact absurd (by rw [a2, b2]; exact h.symm) (hp j i b1 a1 hh)

theorem key_inj {es : Array MapEntry} (hn : es.toList.Pairwise fun x y => x.key ≠ y.key) {i j : Nat} {x y : MapEntry} (hi : es[i]? = some x) (hj : es[j]? = some y) (h : x.key = y.key) : i = j := by
  have hi' : es.toList[i]? = some x := by simpa using hi
  have hj' : es.toList[j]? = some y := by simpa using hj
  obtain ⟨a1, a2⟩ := List.getElem?_eq_some_iff.1 hi'
  obtain ⟨b1, b2⟩ := List.getElem?_eq_some_iff.1 hj'
  have hp := List.pairwise_iff_getElem.1 hn
  rcases Nat.lt_trichotomy i j with hh | hh | hh
  · exact absurd (by rw [a2, b2]; exact h) (hp i j a1 b1 hh)
  · exact hh
  · exact absurd (by rw [a2, b2]; exact h.symm) (hp j i b1 a1 hh)

/-- Stored into the entry of that stamp: as a store at its key. -/
theorem run_entryStore (K : Keyed P k) (ht : P.underlying t = some (.map k e)) (hb : w.heap[b]? = some (.map es clock)) (F : Fit P k R es clock) {key v : Value} {kl : Lit} (hkey : keyOf P k key = some kl) {s : Nat} (hE : EntryAt w b s key) :
    ∃ w', (Instr.entryStore t (.map (some b)) (goInt (s : Nat)) v).run P w = .ok () w' ∧ (Instr.mapUpdate t (.map (some b)) key v).run P w = .ok () w' := by
  obtain ⟨es', clock', i, e0, hb', hi, hk, hs⟩ := hE
  rw [hb] at hb'
  simp only [Option.some.injEq, Obj.map.injEq] at hb'
  obtain ⟨rfl, rfl⟩ := hb'
  have hst := (MapKept.stamped_iff es clock).1 F.stamped
  have hidx : es.findIdx? (fun e => (e.born : Int) == (s : Int)) = some i := by
    obtain ⟨hil, hie⟩ := Array.getElem?_eq_some_iff.1 hi
    rw [Array.findIdx?_eq_some_iff_getElem]
    refine ⟨hil, by rw [hie]; simp [hs], fun j hj => ?_⟩
    simp only [Bool.not_eq_true, beq_eq_false_iff_ne, ne_eq]
    intro hh
    have hjl : j < es.size := by omega
    have := born_inj hst.2.1 (i := j) (j := i) (Array.getElem?_eq_getElem hjl) hi (by rw [hs]; omega)
    omega
  rcases K.find w hkey es.toList F.keys with ⟨h1, h2⟩ | ⟨j, e1, h1, h2, h3⟩
  · exact absurd hk (h2 e0 (List.mem_of_getElem? (by simpa using hi : es.toList[i]? = some e0)))
  · have hj : es[j]? = some e1 := by simpa using h2
    have hij : i = j := key_inj hst.2.2 hi hj (by rw [hk, h3])
    subst hij
    rw [hj] at hi
    simp only [Option.some.injEq] at hi
    subst hi
    refine ⟨setBlock w b (.map (es.modify i fun e => { e with val := v }) clock), ?_, ?_⟩
    · simp [Instr.entryStore, MapKept.run_getObj_map hb, asInt, asIntOf, goInt, hidx, MapKept.run_setObj_map _ hb, Result.andThen, setBlock]
    · rw [modify_same hj (fun e => { e with val := v }) (fun e => { e with key := key, val := v }) (by simp [h3])]
      simp [Instr.mapUpdate, run_underlying ht, MapKept.run_getObj_map hb, K.check w false hkey, h1, hj, h3, K.stays w hkey, MapKept.run_setObj_map _ hb, Result.andThen, setBlock]
end

set_option maxRecDepth 100000 in
theorem CntMap.entry {w : World} {B n : Nat} {f : List Wd → Nat} (h : CntMap w B n f) {ws : List Wd} (hr : IsRun ws) (hn : n < maxLen) (hv : f ws < 18446744073709551616) :
    ∃ s w', (Instr.mapEntry 86 (.map (some B)) (keyV ws)).run Tryz.prog w = .ok (.tuple #[.int .u64 (f ws : Nat), goInt (s : Nat)]) w' ∧ EntryAt w' B s (keyV ws) ∧ CntMap w' B (n + 1) f ∧ w.grownBy w' (some B) := by
  have hl := h.look hr
  obtain ⟨D, ⟨es, clock, hb, F, hs, hD⟩, h2⟩ := id h
  obtain ⟨l, hkl⟩ := key_of hr
  obtain ⟨v, s, w', g1, g2, g3, g4⟩ := run_mapEntry Tryz.keyedRun Tryz.underlying86 (Tryz.zeroU64 w) hb F hkl
  rw [hl] at g1
  simp only [Result.ok.injEq, and_true] at g1
  subst g1
  obtain ⟨w'', p1, p2, p3⟩ := h.put hr hn (f ws) hv
  rw [g3] at p1
  simp only [Result.ok.injEq, true_and] at p1
  subst p1
  refine ⟨s, w', g2, g4, p2.mono (Nat.le_refl _) (fun x _ => ?_), p3⟩
  show (if x = ws then f ws else f x) = f x
  by_cases e : x = ws
  · subst e; simp
  · rw [if_neg e]

set_option maxRecDepth 100000 in
theorem CntMap.store {w : World} {B n : Nat} {f : List Wd → Nat} (h : CntMap w B n f) {ws : List Wd} (hr : IsRun ws) (hn : n < maxLen) {s : Nat} (hE : EntryAt w B s (keyV ws)) (v : Nat) (hv : v < 18446744073709551616) :
    ∃ w', (Instr.entryStore 86 (.map (some B)) (goInt (s : Nat)) (.int .u64 (v : Nat))).run Tryz.prog w = .ok () w' ∧ CntMap w' B (n + 1) (fun x => if x = ws then v else f x) ∧ w.grownBy w' (some B) := by
  obtain ⟨D, ⟨es, clock, hb, F, hs, hD⟩, h2⟩ := id h
  obtain ⟨l, hkl⟩ := key_of hr
  obtain ⟨w', g1, g2⟩ := run_entryStore (v := .int .u64 (v : Nat)) Tryz.keyedRun Tryz.underlying86 hb F hkl hE
  obtain ⟨w'', p1, p2, p3⟩ := h.put hr hn v hv
  rw [g2] at p1
  simp only [Result.ok.injEq, true_and] at p1
  subst p1
  exact ⟨w', g1, p2, p3⟩

end Go.Proofs.YtocbogeoffeolaaGreatDoor
