/-
  WALKS: the document's own answer: Observe.
  WALKS: hintlaw: pick, same, num.
  WHAT IS ASKED OF THE PROGRAM: its engine as far as words go, with a footprint; New, Observe, Suggest. And what Suggest tells.
  WALKS: hintlaw: tells: Observe and Suggest, the program's and the document's.
  HOW THINGS STAND between two steps: all engines, the lists, hintlaw's World.
  WALKS: hintlaw: made: one engine more.
  WALKS: hintlaw: step, where the step is New, Observe or Suggest.
  WALKS: hintlaw: plays: a whole script, of New, Observe and Suggest.
  THE ARGUMENT OPENED: a script ([]Op) that reads as data, as its cells; how many Ops it has, by its bulk.
  THE PLAYER, FOR ANY STATE: two sides (the program's engine, the document's), many pairs, the lists. (Made by wip/mkG.py of State, W13, W14.)
-/
import Derived.Test.YtocbogeoffeolaaGreatDoorSegAA
import Derived.Test.YtocbogeoffeolaaGreatDoorRows
import Derived.Deep.RegionLaw
import Derived.ProofKit
import Derived.OpenShut
import Derived.JoinedCond
import Derived.Deep.Slices
import Derived.Lib.SmallJoins
namespace Go.Proofs.YtocbogeoffeolaaGreatDoor
open Go.RowKit

/-- What Observe does to the texts: its answer, and the texts behind it. -/
def obsL (ts : List (List Wd)) (s : List UInt8) : Nat × List (List Wd) :=
  if queryB s = true ∧ s ≠ [] then
    if 60 < (knownL (ts ++ [wordsL (foldL s)])).length then (4, ts) else (0, ts ++ [wordsL (foldL s)])
  else (2, ts)

end Go.Proofs.YtocbogeoffeolaaGreatDoor

namespace Go.Proofs.YtocbogeoffeolaaGreatDoor
open Go.RowKit

/-- Which of n things a raw number speaks of. -/
def pickN (c : Int) (n : Nat) : Nat := ((if c < 0 then -(c + 1) else c) % (n : Int)).toNat
theorem pickN_lt (c : Int) (n : Nat) (h : 0 < n) : pickN c n < n := by
  unfold pickN
  have h1 : 0 ≤ (if c < 0 then -(c + 1) else c) % (n : Int) := Int.emod_nonneg _ (by omega)
  have h2 : (if c < 0 then -(c + 1) else c) % (n : Int) < (n : Int) := Int.emod_lt_of_pos _ (by omega)
  omega

set_option maxHeartbeats 400000 in
theorem pick_any (c : Int) (n : Nat) (w : World) (hc0 : -9223372036854775808 ≤ c) (hc1 : c ≤ 9223372036854775807) (hn : 0 < n) (hn2 : n ≤ 1000000) :
    Calls Tryz.prog 75 #[.int .i64 c, .int .i64 n] w fun e w' => e = .returned (.int .i64 (pickN c n)) ∧ w = w' := by
  have hp := pickN_lt c n hn
  have HP : Hid ((pickN c n : Int) = (if c < 0 then -(c + 1) else c) % (n : Int)) := by
    show _ = _
    unfold pickN
    have h1 : 0 ≤ (if c < 0 then -(c + 1) else c) % (n : Int) := Int.emod_nonneg _ (by omega)
    omega
  have hn' : ((n : Int) == 0) = false := by simp; omega
  by_cases hneg : c < 0
  · go_enter Tryz.func75, Tryz.ntmps75
    go_wp2
    go_ret
    refine ⟨ret_int ?_, rfl⟩
    rw [HP.out, if_pos (by omega), ← Int.neg_tmod, Int.tmod_eq_emod_of_nonneg (by omega)]
  · go_enter Tryz.func75, Tryz.ntmps75
    go_wp2
    go_ret
    refine ⟨ret_int ?_, rfl⟩
    rw [HP.out, if_neg (by omega)]

set_option maxHeartbeats 400000 in
theorem num_any (c : Int) (w : World) : Calls Tryz.prog 104 #[.int .i64 c] w fun e w' => e = .returned (.int .i64 c) ∧ w = w' := by
  go_enter Tryz.func104, Tryz.ntmps104
  go_wp2
  go_ret
  exact ⟨rfl, rfl⟩

end Go.Proofs.YtocbogeoffeolaaGreatDoor

namespace Go.Proofs.YtocbogeoffeolaaGreatDoor
open Go.RowKit

/-- What Suggest tells, and its answer. -/
def sugL (ts : List (List Wd)) (s : List UInt8) (most : Int) : List Wd × Nat :=
  if most < 1 ∨ 20 < most then ([], 3) else if queryB s = true then (suggestL ts (wordsL (foldL s)) most.toNat, 0) else ([], 2)

/-- The program's table of weights is laid as its text lays it. -/
def WOk (w : World) : Prop := w.cell? ⟨0, 0, none⟩ = some (.int .u64 4) ∧ w.cell? ⟨0, 1, none⟩ = some (.int .u64 10) ∧ w.cell? ⟨0, 2, none⟩ = some (.int .u64 25)
theorem WOk.below {w w' : World} (h : WOk w) (hb : Below w.heap.size w w') : WOk w' := ⟨cell_later hb h.1, cell_later hb h.2.1, cell_later hb h.2.2⟩

/-- The program's engine: pe w F b ts: in the world w the pointer to block b is an engine that has observed the texts ts; F: its footprint. -/
structure ProgOK (pe : World → (Nat → Prop) → Nat → List (List Wd) → Prop) : Prop where
  lt : ∀ {w : World} {F : Nat → Prop} {b : Nat} {ts : List (List Wd)}, pe w F b ts → ∀ k, F k → k < w.heap.size
  stay : ∀ {w w' : World} {F : Nat → Prop} {b : Nat} {ts : List (List Wd)}, pe w F b ts → w.heap.size ≤ w'.heap.size → (∀ k, F k → w'.heap[k]? = w.heap[k]?) → pe w' F b ts
  new : ∀ w : World, Calls Tryz.prog 31 #[] w fun e w' => ∃ (b : Nat) (F : Nat → Prop), e = .returned (.pointer (some ⟨b, 0, none⟩)) ∧ pe w' F b [] ∧ (∀ k, F k → w.heap.size ≤ k) ∧ Below w.heap.size w w'
  observe : ∀ (w : World) (F : Nat → Prop) (b : Nat) (ts : List (List Wd)) (s : ByteArray), pe w F b ts → bulkT ts ≤ 16777216 → s.size ≤ maxLen →
    Calls Tryz.prog 34 #[.pointer (some ⟨b, 0, none⟩), .string s] w fun e w' => e = .returned (.int .i64 (obsL ts s.data.toList).1) ∧
      ∃ F' : Nat → Prop, pe w' F' b (obsL ts s.data.toList).2 ∧ (∀ k, F' k → F k ∨ w.heap.size ≤ k) ∧ FrameF F w w'
  suggest : ∀ (w : World) (F : Nat → Prop) (b : Nat) (ts : List (List Wd)) (s : ByteArray) (most : Int), WOk w → pe w F b ts → bulkT ts ≤ 16777216 → s.size ≤ maxLen → -9223372036854775808 ≤ most → most ≤ 9223372036854775807 →
    Calls Tryz.prog 35 #[.pointer (some ⟨b, 0, none⟩), .string s, .int .i64 most] w fun e w' => ∃ v, e = .returned (.tuple #[v, .int .i64 (sugL ts s.data.toList most).2]) ∧
      w'.ownsRow w.heap.size 9 1 v (sugL ts s.data.toList most).1.length (strVals (sugL ts s.data.toList most).1) ∧ Below w.heap.size w w'

end Go.Proofs.YtocbogeoffeolaaGreatDoor

namespace Go.Proofs.YtocbogeoffeolaaGreatDoor
open Go.RowKit

/-- An Op as a value. -/
def opV (kind W N M K : Int) (S T : ByteArray) (L : Value) (made : Bool) : Array Value :=
  #[.int .i64 kind, .int .i64 W, .int .i64 N, .int .i64 M, .int .i64 K, .string S, .string T, L, .bool made]

/-- The two engines of a pair, and hintlaw's World, lie apart. -/
structure Apart (w : World) (Fx Fy D : Nat → Prop) (B : Nat) (vl vm : Value) : Prop where
  xy : ∀ k, Fx k → ¬ Fy k
  xD : ∀ k, Fx k → ¬ D k
  yD : ∀ k, Fy k → ¬ D k
  xB : ¬ Fx B
  yB : ¬ Fy B
  xl : ∀ k, vl.ownBlock = some k → ¬ Fx k
  yl : ∀ k, vl.ownBlock = some k → ¬ Fy k
  xm : ∀ k, vm.ownBlock = some k → ¬ Fx k
  ym : ∀ k, vm.ownBlock = some k → ¬ Fy k

/-- What one step leaves: w: ahead of it, w': behind it. -/
structure After (pe : World → (Nat → Prop) → Nat → List (List Wd) → Prop) (w w' : World) (Fx Fy D : Nat → Prop) (B bx byy : Nat) (va vl vm : Value) (last : Nat) (us : List Value) (vB vS : Value) (ts' : List (List Wd)) (last' : Nat) : Prop where
  ex : ∃ (Fx' Fy' D' : Nat → Prop) (vl' vm' : Value) (us' : List Value) (ms' : List Wd),
    w'.heap[B]? = some (.cells #[va, vl', vm', .int .i64 last'] 74 (0, 0)) ∧ Lists w' D' B vl' vm' us' ms' ∧ us'.length = ms'.length ∧ us'.length ≤ us.length + 9 ∧
    pe w' Fx' bx ts' ∧ RefT w' Fy' byy vB vS ts' ∧ (∀ k, Fy' k → k < w'.heap.size) ∧ Apart w' Fx' Fy' D' B vl' vm' ∧
    (∀ k, Fx' k → Fx k ∨ w.heap.size ≤ k) ∧ (∀ k, Fy' k → Fy k ∨ w.heap.size ≤ k) ∧ (∀ k, D' k → D k ∨ w.heap.size ≤ k) ∧
    (∀ k, vl'.ownBlock = some k → vl.ownBlock = some k ∨ w.heap.size ≤ k) ∧ (∀ k, vm'.ownBlock = some k → vm.ownBlock = some k ∨ w.heap.size ≤ k)
  frame : FrameF (fun k => Fx k ∨ Fy k ∨ k = B ∨ vl.ownBlock = some k ∨ vm.ownBlock = some k) w w'
  le : last' ≤ last + 1

theorem RefT.stay {w w' : World} {F : Nat → Prop} {b : Nat} {vB vS : Value} {ts : List (List Wd)} (h : RefT w F b vB vS ts) (hb : ∀ k, F k → w'.heap[k]? = w.heap[k]?) : RefT w' F b vB vS ts := by
  obtain ⟨vT, h1, h2, h3⟩ := h
  exact ⟨vT, by rw [hb b h2]; exact h1, h2, h3.stay hb (fun _ hk => hk)⟩

section
variable {pe : World → (Nat → Prop) → Nat → List (List Wd) → Prop}

/-- Ahead of a step: all that is known. -/
structure Before (pe : World → (Nat → Prop) → Nat → List (List Wd) → Prop) (w : World) (Fx Fy D : Nat → Prop) (B bx byy : Nat) (va vl vm : Value) (last : Nat) (us : List Value) (ms : List Wd) (vB vS : Value) (ts : List (List Wd)) : Prop where
  heap : w.heap[B]? = some (.cells #[va, vl, vm, .int .i64 last] 74 (0, 0))
  lists : Lists w D B vl vm us ms
  len : us.length = ms.length
  x : pe w Fx bx ts
  y : RefT w Fy byy vB vS ts
  fy : ∀ k, Fy k → k < w.heap.size
  apart : Apart w Fx Fy D B vl vm
  bulk : bulkT ts ≤ 16777216
  lastB : last ≤ 1073741824
  usB : us.length ≤ 17179869184

theorem Before.bz {w : World} {Fx Fy D : Nat → Prop} {B bx byy last : Nat} {va vl vm vB vS : Value} {us : List Value} {ms : List Wd} {ts : List (List Wd)} (h : Before pe w Fx Fy D B bx byy va vl vm last us ms vB vS ts) : B < w.heap.size := by
  by_cases hh : B < w.heap.size
  · exact hh
  · have := h.heap; rw [Array.getElem?_eq_none (by omega)] at this; simp at this

end

end Go.Proofs.YtocbogeoffeolaaGreatDoor

namespace Go.Proofs.YtocbogeoffeolaaGreatDoor
open Go.RowKit

structure Eng where
  bx : Nat
  byy : Nat
  fx : Nat → Prop
  fy : Nat → Prop
  ts : List (List Wd)

def Eng.f (e : Eng) (k : Nat) : Prop := e.fx k ∨ e.fy k
def vNil : Value := .slice none 0 0
def pairVals (es : List Eng) : List Value := es.flatMap fun e => [.pointer (some ⟨e.bx, 0, none⟩), .pointer (some ⟨e.byy, 0, none⟩)]

theorem pairVals_snoc (es : List Eng) (e : Eng) : pairVals (es ++ [e]) = pairVals es ++ [.pointer (some ⟨e.bx, 0, none⟩), .pointer (some ⟨e.byy, 0, none⟩)] := by simp [pairVals]
theorem pairVals_set (es : List Eng) : ∀ (i : Nat) (e : Eng) (h : i < es.length), e.bx = es[i].bx → e.byy = es[i].byy → pairVals (es.set i e) = pairVals es := by
  induction es with
  | nil => intro i e h; simp at h
  | cons a es ih =>
    intro i e h h1 h2
    cases i with
    | zero => simp at h1 h2; simp [pairVals, h1, h2]
    | succ i =>
      have := ih i e (by simpa using h) (by simpa using h1) (by simpa using h2)
      simp only [pairVals, List.set_cons_succ, List.flatMap_cons] at this ⊢
      rw [this]
section
variable (pe : World → (Nat → Prop) → Nat → List (List Wd) → Prop)

structure EngOK (w : World) (D : Nat → Prop) (B : Nat) (va vl vm : Value) (e : Eng) : Prop where
  x : pe w e.fx e.bx e.ts
  y : RefT w e.fy e.byy vNil vNil e.ts
  fy : ∀ k, e.fy k → k < w.heap.size
  apart : Apart w e.fx e.fy D B vl vm
  ra : ∀ k, va.ownBlock = some k → ¬ e.f k

/-- w0: the world in which all began. -/
structure GS (w0 w : World) (B : Nat) (D : Nat → Prop) (va vl vm : Value) (last : Nat) (us : List Value) (ms : List Wd) (es : List Eng) : Prop where
  heap : w.heap[B]? = some (.cells #[va, vl, vm, .int .i64 last] 74 (0, 0))
  lists : Lists w D B vl vm us ms
  len : us.length = ms.length
  row : w.ownsRow 0 122 2 va es.length (pairVals es)
  rD : ∀ k, va.ownBlock = some k → ¬ D k
  eng : ∀ i (h : i < es.length), EngOK pe w D B va vl vm es[i]
  two : ∀ i j (hi : i < es.length) (hj : j < es.length), i ≠ j → ∀ k, es[i].f k → ¬ es[j].f k
  base : Below w0.heap.size w0 w
  loB : w0.heap.size ≤ B
  loa : ∀ k, va.ownBlock = some k → w0.heap.size ≤ k
  lol : ∀ k, vl.ownBlock = some k → w0.heap.size ≤ k
  lom : ∀ k, vm.ownBlock = some k → w0.heap.size ≤ k
  loD : ∀ k, D k → w0.heap.size ≤ k
  loE : ∀ i (h : i < es.length), ∀ k, es[i].f k → w0.heap.size ≤ k
end

section
variable {pe : World → (Nat → Prop) → Nat → List (List Wd) → Prop}

theorem GS.bz {w0 w : World} {B : Nat} {D : Nat → Prop} {va vl vm : Value} {last : Nat} {us : List Value} {ms : List Wd} {es : List Eng} (h : GS pe w0 w B D va vl vm last us ms es) : B < w.heap.size := by
  by_cases hh : B < w.heap.size
  · exact hh
  · have := h.heap; rw [Array.getElem?_eq_none (by omega)] at this; simp at this

/-- A step of one engine. -/
theorem GS.after (hp : ProgOK pe) {w0 w w' : World} {B : Nat} {D : Nat → Prop} {va vl vm : Value} {last last' : Nat} {us : List Value} {ms : List Wd} {es : List Eng} {ts' : List (List Wd)} (h : GS pe w0 w B D va vl vm last us ms es)
    (i : Nat) (hi : i < es.length) (ha : After pe w w' es[i].fx es[i].fy D B es[i].bx es[i].byy va vl vm last us vNil vNil ts' last') :
    ∃ (D' : Nat → Prop) (vl' vm' : Value) (us' : List Value) (ms' : List Wd) (e' : Eng), GS pe w0 w' B D' va vl' vm' last' us' ms' (es.set i e') ∧ e'.ts = ts' ∧ us'.length ≤ us.length + 9 := by
  obtain ⟨⟨Fx', Fy', D', vl', vm', us', ms', hB', hL', hlen', hle', hx', hy', hfy', hap', hFx, hFy, hD, hvl, hvm⟩, hfr, _⟩ := ha
  have hzz := h.base.size
  have hz := hfr.size
  have hE := h.eng i hi
  have hfxl := hp.lt hE.x
  -- what is not touched
  have hold : ∀ k, k < w.heap.size → ¬ es[i].f k → k ≠ B → vl.ownBlock ≠ some k → vm.ownBlock ≠ some k → w'.heap[k]? = w.heap[k]? := fun k hk h1 h2 h3 h4 => by
    refine hfr.block k hk (fun hh => ?_)
    rcases hh with hh | hh | hh | hh | hh
    · exact h1 (Or.inl hh)
    · exact h1 (Or.inr hh)
    · exact h2 hh
    · exact h3 hh
    · exact h4 hh
  have hvaB : va.ownBlock ≠ some B := blk_ne_wide h.heap h.row (by decide)
  have hva : ∀ k, va.ownBlock = some k → w'.heap[k]? = w.heap[k]? := fun k hk =>
    hold k (h.row.lt k hk).2 (hE.ra k hk) (fun e => hvaB (by rw [← e]; exact hk)) (fun e => owns_ne_wide h.row h.lists.ol (by decide) k hk e) (fun e => owns_ne_wide h.row h.lists.om (by decide) k hk e)
  have hfl : ∀ j (hj : j < es.length), ∀ k, es[j].f k → k < w.heap.size := fun j hj k hk => by
    rcases hk with hk | hk
    · exact hp.lt (h.eng j hj).x k hk
    · exact (h.eng j hj).fy k hk
  have hoth : ∀ j (hj : j < es.length), j ≠ i → ∀ k, es[j].f k → w'.heap[k]? = w.heap[k]? := fun j hj hne k hk => by
    refine hold k (hfl j hj k hk) (fun hh => h.two j i hj hi hne k hk hh) (fun e => ?_) (fun e => ?_) (fun e => ?_)
    · rcases hk with hk | hk
      · exact (h.eng j hj).apart.xB (e ▸ hk)
      · exact (h.eng j hj).apart.yB (e ▸ hk)
    · rcases hk with hk | hk
      · exact (h.eng j hj).apart.xl k e hk
      · exact (h.eng j hj).apart.yl k e hk
    · rcases hk with hk | hk
      · exact (h.eng j hj).apart.xm k e hk
      · exact (h.eng j hj).apart.ym k e hk
  have hf' : ∀ k, Fx' k ∨ Fy' k → es[i].f k ∨ w.heap.size ≤ k := fun k hk => by
    rcases hk with hk | hk
    · rcases hFx k hk with h1 | h1
      · exact Or.inl (Or.inl h1)
      · exact Or.inr h1
    · rcases hFy k hk with h1 | h1
      · exact Or.inl (Or.inr h1)
      · exact Or.inr h1
  refine ⟨D', vl', vm', us', ms', ⟨es[i].bx, es[i].byy, Fx', Fy', ts'⟩, ⟨hB', hL', hlen', ?_, ?_, ?_, ?_, ?_, h.loB, h.loa, ?_, ?_, ?_, ?_⟩, rfl, hle'⟩
  · rw [pairVals_set es i ⟨es[i].bx, es[i].byy, Fx', Fy', ts'⟩ hi rfl rfl, List.length_set]
    exact owns_stay_wide h.row hva
  · intro k hk hd
    rcases hD k hd with h1 | h1
    · exact h.rD k hk h1
    · have := (h.row.lt k hk).2; omega
  · intro j hj
    rw [List.length_set] at hj
    rw [List.getElem_set]
    split
    · refine ⟨hx', hy', hfy', hap', fun k hk hh => ?_⟩
      rcases hf' k hh with h1 | h1
      · exact hE.ra k hk h1
      · have := (h.row.lt k hk).2; omega
    · rename_i hne
      have hEj := h.eng j hj
      have hkeep := hoth j hj (fun e => hne e.symm)
      have hlt := hfl j hj
      refine ⟨hp.stay hEj.x hz (fun k hk => hkeep k (Or.inl hk)), hEj.y.stay (fun k hk => hkeep k (Or.inr hk)), fun k hk => by have := hlt k (Or.inr hk); omega, ?_, hEj.ra⟩
      have hA := hEj.apart
      refine ⟨hA.xy, fun k hk hd => ?_, fun k hk hd => ?_, hA.xB, hA.yB, fun k hv hk => ?_, fun k hv hk => ?_, fun k hv hk => ?_, fun k hv hk => ?_⟩
      · rcases hD k hd with h1 | h1
        · exact hA.xD k hk h1
        · have := hlt k (Or.inl hk); omega
      · rcases hD k hd with h1 | h1
        · exact hA.yD k hk h1
        · have := hlt k (Or.inr hk); omega
      · rcases hvl k hv with h1 | h1
        · exact hA.xl k h1 hk
        · have := hlt k (Or.inl hk); omega
      · rcases hvl k hv with h1 | h1
        · exact hA.yl k h1 hk
        · have := hlt k (Or.inr hk); omega
      · rcases hvm k hv with h1 | h1
        · exact hA.xm k h1 hk
        · have := hlt k (Or.inl hk); omega
      · rcases hvm k hv with h1 | h1
        · exact hA.ym k h1 hk
        · have := hlt k (Or.inr hk); omega
  · intro a b ha hb hne k hka hkb
    rw [List.length_set] at ha hb
    rw [List.getElem_set] at hka hkb
    split at hka
    · rename_i e1
      split at hkb
      · omega
      · rename_i e2
        rcases hf' k hka with h1 | h1
        · exact h.two i b hi hb e2 k h1 hkb
        · have := hfl b hb k hkb; omega
    · rename_i e1
      split at hkb
      · rcases hf' k hkb with h1 | h1
        · exact h.two a i ha hi (fun e => e1 e.symm) k hka h1
        · have := hfl a ha k hka; omega
      · exact h.two a b ha hb hne k hka hkb
  · refine ⟨hfr.os.trans h.base.os, hfr.tape.trans h.base.tape, hfr.output.trans h.base.output, by have := h.base.size; omega, fun k hk => ?_⟩
    have hb0 := h.base.size
    rw [hfr.block k (by omega) (fun hh => ?_), h.base.block k hk]
    rcases hh with hh | hh | hh | hh | hh
    · have := h.loE i hi k (Or.inl hh); omega
    · have := h.loE i hi k (Or.inr hh); omega
    · have := h.loB; omega
    · have := h.lol k hh; omega
    · have := h.lom k hh; omega
  · intro k hk
    rcases hvl k hk with h1 | h1
    · exact h.lol k h1
    · have := h.base.size; omega
  · intro k hk
    rcases hvm k hk with h1 | h1
    · exact h.lom k h1
    · have := h.base.size; omega
  · intro k hk
    rcases hD k hk with h1 | h1
    · exact h.loD k h1
    · have := h.base.size; omega
  · intro j hj k hk
    rw [List.length_set] at hj
    rw [List.getElem_set] at hk
    split at hk
    · rcases hf' k hk with h1 | h1
      · exact h.loE i hi k h1
      · have := h.base.size; omega
    · exact h.loE j hj k hk
end

end Go.Proofs.YtocbogeoffeolaaGreatDoor

namespace Go.Proofs.YtocbogeoffeolaaGreatDoor
open Go.RowKit

theorem getElem_snoc_lt {α : Type} (l : List α) (a : α) (i : Nat) (h : i < l.length) (h' : i < (l ++ [a]).length) : (l ++ [a])[i] = l[i] := List.getElem_append_left h
theorem getElem_snoc_eq {α : Type} (l : List α) (a : α) (i : Nat) (h : ¬ i < l.length) (h' : i < (l ++ [a]).length) : (l ++ [a])[i] = a := by
  have e : i = l.length := by simp at h'; omega
  subst e
  simp

section
variable {pe : World → (Nat → Prop) → Nat → List (List Wd) → Prop}

theorem GS.made (hp : ProgOK pe) {w0 w w1 w2 : World} {B bx : Nat} {D Fx : Nat → Prop} {va va' vl vm : Value} {last : Nat} {us : List Value} {ms : List Wd} {es : List Eng} {o : Obj} (h : GS pe w0 w B D va vl vm last us ms es)
    (hb1 : Below w.heap.size w w1) (hx1 : pe w1 Fx bx []) (hFx : ∀ k, Fx k → w.heap.size ≤ k)
    (ho : w2.ownsRow 0 122 2 va' (es.length + 1) (pairVals es ++ [.pointer (some ⟨bx, 0, none⟩), .pointer (some ⟨w1.heap.size, 0, none⟩)]))
    (hg : ((w1.alloc (.cells #[vNil, vNil, vNil] 120)).alloc o).grownBy w2 va.ownBlock) (hk : va'.ownBlock = va.ownBlock ∨ va'.ownBlock = some (w1.heap.size + 2)) :
    w2.heap[B]? = some (.cells #[va, vl, vm, .int .i64 last] 74 (0, 0)) ∧
    GS pe w0 (w2.setCell ⟨B, 0, none⟩ va') B D va' vl vm last us ms (es ++ [⟨bx, w1.heap.size, Fx, fun k => k = w1.heap.size, []⟩]) := by
  have hz1 := hb1.size
  have hz2 : w1.heap.size + 2 ≤ w2.heap.size := by have := hg.size; simpa using this
  have hBz := h.bz
  have hx1l := hp.lt hx1
  have hvaB : va.ownBlock ≠ some B := blk_ne_wide h.heap h.row (by decide)
  have hval : ∀ k, va.ownBlock = some k → k < w.heap.size := fun k hk => (h.row.lt k hk).2
  -- the blocks between
  have hold : ∀ k, k < w.heap.size → va.ownBlock ≠ some k → w2.heap[k]? = w.heap[k]? := fun k hk hne => by
    rw [hg.block k (by simp; omega) (fun e => hne e.symm), Below.heap_alloc _ _ _ (by simp; omega), Below.heap_alloc _ _ _ (by omega), hb1.block k hk]
  have hnew : ∀ k, w.heap.size ≤ k → k < w1.heap.size → w2.heap[k]? = w1.heap[k]? := fun k hk hk1 => by
    rw [hg.block k (by simp; omega) (fun e => by have := hval k e.symm; omega), Below.heap_alloc _ _ _ (by simp; omega), Below.heap_alloc _ _ _ (by omega)]
  have hy : w2.heap[w1.heap.size]? = some (.cells #[vNil, vNil, vNil] 120 (0, 0)) := by
    rw [hg.block _ (by simp; omega) (fun e => by have := hval _ e.symm; omega), Below.heap_alloc _ _ _ (by simp)]
    show (w1.heap.push _)[w1.heap.size]? = _
    rw [Array.getElem?_push, if_pos rfl]
  have hB2 : w2.heap[B]? = some (.cells #[va, vl, vm, .int .i64 last] 74 (0, 0)) := by rw [hold B hBz hvaB]; exact h.heap
  have hfar : ∀ k, k ≠ B → (w2.setCell ⟨B, 0, none⟩ va').heap[k]? = w2.heap[k]? := fun k hk => Below.heap_setCell _ _ _ _ hk
  have hsz : (w2.setCell ⟨B, 0, none⟩ va').heap.size = w2.heap.size := by simp [World.setCell]
  have hall : ∀ k, k < w.heap.size → va.ownBlock ≠ some k → k ≠ B → (w2.setCell ⟨B, 0, none⟩ va').heap[k]? = w.heap[k]? := fun k hk h1 h2 => by rw [hfar k h2, hold k hk h1]
  have hfl : ∀ j (hj : j < es.length), ∀ k, es[j].f k → k < w.heap.size := fun j hj k hk => by
    rcases hk with hk | hk
    · exact hp.lt (h.eng j hj).x k hk
    · exact (h.eng j hj).fy k hk
  have hkeep : ∀ j (hj : j < es.length), ∀ k, es[j].f k → (w2.setCell ⟨B, 0, none⟩ va').heap[k]? = w.heap[k]? := fun j hj k hk => by
    refine hall k (hfl j hj k hk) (fun e => (h.eng j hj).ra k e hk) (fun e => ?_)
    rcases hk with hk | hk
    · exact (h.eng j hj).apart.xB (e ▸ hk)
    · exact (h.eng j hj).apart.yB (e ▸ hk)
  have hva' : ∀ k, va'.ownBlock = some k → va.ownBlock = some k ∨ k = w1.heap.size + 2 := fun k hk' => by
    rcases hk with h1 | h1
    · exact Or.inl (by rw [← h1]; exact hk')
    · rw [h1] at hk'; simp only [Option.some.injEq] at hk'; exact Or.inr hk'.symm
  have hbs := h.base.size
  refine ⟨hB2, ?_, ?_, h.len, ?_, ?_, ?_, ?_, ?_, h.loB, ?_, h.lol, h.lom, h.loD, ?_⟩
  · rw [heap_set hB2]; rfl
  · refine h.lists.stay (by rw [hsz]; omega) (fun k hd => hall k (h.lists.dlt k hd) (fun e => h.rD k e hd) (fun e => h.lists.dB (e ▸ hd))) (fun k hv => hall k (h.lists.ol.lt k hv).2 (fun e => owns_ne_wide h.row h.lists.ol (by decide) k e hv) (fun e => blk_ne h.heap h.lists.ol (by decide) (e ▸ hv))) (fun k hv => hall k (h.lists.om.lt k hv).2 (fun e => owns_ne_wide h.row h.lists.om (by decide) k e hv) (fun e => blk_ne h.heap h.lists.om (by decide) (e ▸ hv)))
  · have e1 : (es ++ [(⟨bx, w1.heap.size, Fx, fun k => k = w1.heap.size, []⟩ : Eng)]).length = es.length + 1 := by simp
    rw [e1, pairVals_snoc]
    refine owns_stay_wide ho (fun k hk' => hfar k (fun e => ?_))
    subst e
    exact blk_ne_wide hB2 ho (by decide) hk'
  · intro k hk' hd
    rcases hva' k hk' with h1 | h1
    · exact h.rD k h1 hd
    · have := h.lists.dlt k hd; omega
  · intro j hj
    by_cases hlt : j < es.length
    · rw [getElem_snoc_lt _ _ _ hlt]
      have hEj := h.eng j hlt
      refine ⟨hp.stay hEj.x (by rw [hsz]; omega) (fun k hk' => hkeep j hlt k (Or.inl hk')), hEj.y.stay (fun k hk' => hkeep j hlt k (Or.inr hk')), fun k hk' => by have := hfl j hlt k (Or.inr hk'); rw [hsz]; omega, ⟨hEj.apart.xy, hEj.apart.xD, hEj.apart.yD, hEj.apart.xB, hEj.apart.yB, hEj.apart.xl, hEj.apart.yl, hEj.apart.xm, hEj.apart.ym⟩, fun k hk' hf => ?_⟩
      rcases hva' k hk' with h1 | h1
      · exact hEj.ra k h1 hf
      · have := hfl j hlt k hf; omega
    · rw [getElem_snoc_eq _ _ _ hlt]
      refine ⟨?_, ?_, ?_, ?_, ?_⟩
      · refine hp.stay hx1 (by rw [hsz]; omega) (fun k hk' => ?_)
        have h1 := hFx k hk'
        rw [hfar k (by omega), hnew k h1 (hx1l k hk')]
      · refine ⟨vNil, ?_, rfl, [], rfl, World.ownsRow_nil _ _ _ _, fun k hk' => by simp [vNil, Value.ownBlock] at hk', fun i hi => by simp at hi⟩
        show (w2.setCell ⟨B, 0, none⟩ va').heap[w1.heap.size]? = _
        rw [hfar _ (by omega)]; exact hy
      · intro k hk'
        have e : k = w1.heap.size := hk'
        rw [hsz]; omega
      · refine ⟨fun k h1 h2 => ?_, fun k h1 hd => ?_, fun k h1 hd => ?_, fun h1 => ?_, fun h1 => ?_, fun k hv h1 => ?_, fun k hv h1 => ?_, fun k hv h1 => ?_, fun k hv h1 => ?_⟩
        · have e : k = w1.heap.size := h2
          have := hx1l k h1; omega
        · have := hFx k h1; have := h.lists.dlt k hd; omega
        · have e : k = w1.heap.size := h1
          have := h.lists.dlt k hd; omega
        · have := hFx B h1; omega
        · have e : B = w1.heap.size := h1
          omega
        · have := hFx k h1; have := (h.lists.ol.lt k hv).2; omega
        · have e : k = w1.heap.size := h1
          have := (h.lists.ol.lt k hv).2; omega
        · have := hFx k h1; have := (h.lists.om.lt k hv).2; omega
        · have e : k = w1.heap.size := h1
          have := (h.lists.om.lt k hv).2; omega
      · intro k hk' hf
        rcases hva' k hk' with h1 | h1
        · have hl := hval k h1
          rcases hf with hf | hf
          · have := hFx k hf; omega
          · have e : k = w1.heap.size := hf
            omega
        · rcases hf with hf | hf
          · have := hx1l k hf; omega
          · have e : k = w1.heap.size := hf
            omega
  · intro a b ha hb hne k hka hkb
    have hnewf : ∀ k, (Eng.f ⟨bx, w1.heap.size, Fx, fun k => k = w1.heap.size, []⟩ k) → w.heap.size ≤ k := fun k hk' => by
      rcases hk' with h1 | h1
      · exact hFx k h1
      · have e : k = w1.heap.size := h1
        omega
    by_cases hla : a < es.length
    · rw [getElem_snoc_lt _ _ _ hla] at hka
      by_cases hlb : b < es.length
      · rw [getElem_snoc_lt _ _ _ hlb] at hkb
        exact h.two a b hla hlb hne k hka hkb
      · rw [getElem_snoc_eq _ _ _ hlb] at hkb
        have := hnewf k hkb; have := hfl a hla k hka; omega
    · rw [getElem_snoc_eq _ _ _ hla] at hka
      by_cases hlb : b < es.length
      · rw [getElem_snoc_lt _ _ _ hlb] at hkb
        have := hnewf k hka; have := hfl b hlb k hkb; omega
      · simp at ha hb; omega
  · refine ⟨(hg.os.trans hb1.os).trans h.base.os, (hg.tape.trans hb1.tape).trans h.base.tape, (hg.output.trans hb1.output).trans h.base.output, by rw [hsz]; omega, fun k hk' => ?_⟩
    have := h.loB
    rw [hall k (by omega) (fun e => by have := h.loa k e; omega) (by omega), h.base.block k hk']
  · intro k hk'
    rcases hva' k hk' with h1 | h1
    · exact h.loa k h1
    · omega
  · intro j hj k hk'
    by_cases hlt : j < es.length
    · rw [getElem_snoc_lt _ _ _ hlt] at hk'
      exact h.loE j hlt k hk'
    · rw [getElem_snoc_eq _ _ _ hlt] at hk'
      rcases hk' with h1 | h1
      · have := hFx k h1; omega
      · have e : k = w1.heap.size := h1
        omega
theorem pair_cells {w : World} {x y : Value} {t : TypeId} {b : Nat} (hb : b = w.heap.size) : ∀ j u, [x, y][j]? = some u → (w.alloc (.cells #[x, y] t)).cell? ((⟨b, 0, none⟩ : Addr).add j) = some u := by
  intro j u hj
  rw [Addr.add_lit, World.cell?_alloc_at _ _ _ _ hb]
  match j, hj with
  | 0, hj => simpa using hj
  | 1, hj => simpa using hj
  | j + 2, hj => simp at hj

theorem Tryz.infoPair : (Tryz.prog.info? 122).map (fun i => (i.zero, i.size, i.bytes)) = some (some (.agg #[.pointer none, .pointer none]), 2, 16) := by kernel_rfl

end

end Go.Proofs.YtocbogeoffeolaaGreatDoor

namespace Go.Proofs.YtocbogeoffeolaaGreatDoor
open Go.RowKit

section
variable {pe : World → (Nat → Prop) → Nat → List (List Wd) → Prop}

theorem GS.below (hp : ProgOK pe) {w0 w w' : World} {B : Nat} {D : Nat → Prop} {va vl vm : Value} {last : Nat} {us : List Value} {ms : List Wd} {es : List Eng} (h : GS pe w0 w B D va vl vm last us ms es) (hb : Below w.heap.size w w') :
    GS pe w0 w' B D va vl vm last us ms es := by
  have hz := hb.size
  refine ⟨by rw [hb.block B h.bz]; exact h.heap, h.lists.stay hz (fun k hk => hb.block k (h.lists.dlt k hk)) (fun k hk => hb.block k (h.lists.ol.lt k hk).2) (fun k hk => hb.block k (h.lists.om.lt k hk).2), h.len, owns_stay_wide h.row (fun k hk => hb.block k (h.row.lt k hk).2), h.rD, fun i hi => ?_, h.two, ?_, h.loB, h.loa, h.lol, h.lom, h.loD, h.loE⟩
  · have hE := h.eng i hi
    exact ⟨hp.stay hE.x hz (fun k hk => hb.block k (hp.lt hE.x k hk)), hE.y.stay (fun k hk => hb.block k (hE.fy k hk)), fun k hk => by have := hE.fy k hk; omega, ⟨hE.apart.xy, hE.apart.xD, hE.apart.yD, hE.apart.xB, hE.apart.yB, hE.apart.xl, hE.apart.yl, hE.apart.xm, hE.apart.ym⟩, hE.ra⟩
  · exact h.base.trans (hb.mono h.base.size)

theorem GS.before {w0 w : World} {B : Nat} {D : Nat → Prop} {va vl vm : Value} {last : Nat} {us : List Value} {ms : List Wd} {es : List Eng} (h : GS pe w0 w B D va vl vm last us ms es) (i : Nat) (hi : i < es.length)
    (hbk : bulkT es[i].ts ≤ 16777216) (hl : last ≤ 1073741824) (hu : us.length ≤ 17179869184) : Before pe w es[i].fx es[i].fy D B es[i].bx es[i].byy va vl vm last us ms vNil vNil es[i].ts :=
  ⟨h.heap, h.lists, h.len, (h.eng i hi).x, (h.eng i hi).y, (h.eng i hi).fy, (h.eng i hi).apart, hbk, hl, hu⟩

/-- The state behind a step. -/
def Next (pe : World → (Nat → Prop) → Nat → List (List Wd) → Prop) (w0 w' : World) (B last : Nat) (us : List Value) (es : List Eng) (M : Nat) : Prop :=
  ∃ (D' : Nat → Prop) (va' vl' vm' : Value) (last' : Nat) (us' : List Value) (ms' : List Wd) (es' : List Eng), GS pe w0 w' B D' va' vl' vm' last' us' ms' es' ∧ last' ≤ last + 1 ∧ us'.length ≤ us.length + 9 ∧ es.length ≤ es'.length ∧ es'.length ≤ es.length + 1 ∧
    (∀ i (h : i < es'.length), bulkT es'[i].ts ≤ M + 25)

end

end Go.Proofs.YtocbogeoffeolaaGreatDoor

namespace Go.Proofs.YtocbogeoffeolaaGreatDoor
open Go.RowKit

/-- The k-th Op of a script lies in memory from that place on. -/
structure OpAt (w : World) (b o : Nat) (kind W N M K : Int) (S T : ByteArray) (aL : Option Addr) (nL cL : Nat) (made : Bool) : Prop where
  c0 : w.cell? ⟨b, o, none⟩ = some (.int .i64 kind)
  c1 : w.cell? ⟨b, o + 1, none⟩ = some (.int .i64 W)
  c2 : w.cell? ⟨b, o + 2, none⟩ = some (.int .i64 N)
  c3 : w.cell? ⟨b, o + 3, none⟩ = some (.int .i64 M)
  c4 : w.cell? ⟨b, o + 4, none⟩ = some (.int .i64 K)
  c5 : w.cell? ⟨b, o + 5, none⟩ = some (.string S)
  c6 : w.cell? ⟨b, o + 6, none⟩ = some (.string T)
  c7 : w.cell? ⟨b, o + 7, none⟩ = some (.slice aL nL cL)
  c8 : w.cell? ⟨b, o + 8, none⟩ = some (.bool made)
  w0 : -9223372036854775808 ≤ W
  w1 : W ≤ 9223372036854775807
  k0 : -9223372036854775808 ≤ K
  k1 : K ≤ 9223372036854775807
  s : S.size ≤ maxLen

theorem OpAt.below {w w' : World} {b o : Nat} {kind W N M K : Int} {S T : ByteArray} {aL : Option Addr} {nL cL : Nat} {made : Bool} (h : OpAt w b o kind W N M K S T aL nL cL made) (hb : Below w.heap.size w w') : OpAt w' b o kind W N M K S T aL nL cL made :=
  ⟨cell_later hb h.c0, cell_later hb h.c1, cell_later hb h.c2, cell_later hb h.c3, cell_later hb h.c4, cell_later hb h.c5, cell_later hb h.c6, cell_later hb h.c7, cell_later hb h.c8, h.w0, h.w1, h.k0, h.k1, h.s⟩

section
variable {pe : World → (Nat → Prop) → Nat → List (List Wd) → Prop}

theorem GS.start (w : World) : GS pe w (w.alloc (.cells #[vNil, vNil, vNil, .int .i64 0] 74)) w.heap.size (fun _ => False) vNil vNil vNil 0 [] [] [] := by
  have hb : Below w.heap.size w (w.alloc (.cells #[vNil, vNil, vNil, .int .i64 0] 74)) := (Below.refl _ _).alloc (Nat.le_refl _) _
  refine ⟨?_, ⟨World.ownsRow_nil _ _ _ _, World.ownsRow_nil _ _ _ _, fun k hk => by simp [vNil, Value.ownBlock] at hk, fun k hk => by simp [vNil, Value.ownBlock] at hk, fun h => h, fun k h => h.elim, fun i u mm h => by simp at h⟩, rfl, World.ownsRow_nil _ _ _ _, fun k hk => by simp [vNil, Value.ownBlock] at hk, fun i hi => by simp at hi, fun i j hi => by simp at hi, hb, Nat.le_refl _, fun k hk => by simp [vNil, Value.ownBlock] at hk, fun k hk => by simp [vNil, Value.ownBlock] at hk, fun k hk => by simp [vNil, Value.ownBlock] at hk, fun k h => h.elim, fun i hi => by simp at hi⟩
  show (w.heap.push _)[w.heap.size]? = _
  rw [Array.getElem?_push, if_pos rfl]; rfl

end

end Go.Proofs.YtocbogeoffeolaaGreatDoor

namespace Go.Proofs.YtocbogeoffeolaaGreatDoor
open Go.ChangeShapes Go.WideShapes Go.ChangeAt Go.RowKit

theorem Tryz.cellsOp : Tryz.prog.cellsOf 77 = 9 := by kernel_rfl
theorem Tryz.cells3 : Tryz.prog.cellsOf 3 = 1 := by kernel_rfl
theorem Tryz.cells9 : Tryz.prog.cellsOf 9 = 1 := by kernel_rfl
theorem Tryz.cells32 : Tryz.prog.cellsOf 75 = 1 := by kernel_rfl
theorem Tryz.cells4 : Tryz.prog.cellsOf 4 = 1 := by kernel_rfl

theorem int_bounds {n : Int} (h : (Lit.int .i64 n).wf = true) : -9223372036854775808 ≤ n ∧ n ≤ 9223372036854775807 := by
  have h1 : IntKind.i64.min = -9223372036854775808 := rfl
  have h2 : IntKind.i64.max = 9223372036854775807 := rfl
  simp only [Lit.wf, Bool.and_eq_true, decide_eq_true_eq] at h
  omega

theorem cell_of_drop {cs : List Value} {o : Nat} {v : Value} (h : (cs.drop o).take 1 = [v]) : cs[o]? = some v := by
  have : ((cs.drop o).take 1)[0]? = some v := by rw [h]; rfl
  rw [List.getElem?_take, if_pos (by omega), List.getElem?_drop] at this
  simpa using this

end Go.Proofs.YtocbogeoffeolaaGreatDoor

namespace Go.Proofs.YtocbogeoffeolaaGreatDoor
open Go.RowKit

/-- One side: an engine with its footprint, in a state. -/
structure SideOK {σ : Type} (q : World → (Nat → Prop) → Nat → σ → Prop) : Prop where
  lt : ∀ {w : World} {F : Nat → Prop} {b : Nat} {s : σ}, q w F b s → ∀ k, F k → k < w.heap.size
  stay : ∀ {w w' : World} {F : Nat → Prop} {b : Nat} {s : σ}, q w F b s → w.heap.size ≤ w'.heap.size → (∀ k, F k → w'.heap[k]? = w.heap[k]?) → q w' F b s
/-- Both sides, and how they begin. -/
structure ProgN {σ : Type} (q r : World → (Nat → Prop) → Nat → σ → Prop) (s0 : σ) : Prop where
  okq : SideOK q
  okr : SideOK r
  new : ∀ w : World, Calls Tryz.prog 31 #[] w fun e w' => ∃ (b : Nat) (F : Nat → Prop), e = .returned (.pointer (some ⟨b, 0, none⟩)) ∧ q w' F b s0 ∧ (∀ k, F k → w.heap.size ≤ k) ∧ Below w.heap.size w w'
  rnew : ∀ (w : World) (b : Nat), b < w.heap.size → w.heap[b]? = some (.cells #[vNil, vNil, vNil] 120 (0, 0)) → r w (fun k => k = b) b s0

/-- What one step leaves: w: ahead of it, w': behind it. -/
structure AfterG {σ : Type} (q r : World → (Nat → Prop) → Nat → σ → Prop) (w w' : World) (Fx Fy D : Nat → Prop) (B bx byy : Nat) (va vl vm : Value) (last : Nat) (us : List Value) (ts' : σ) (last' : Nat) : Prop where
  ex : ∃ (Fx' Fy' D' : Nat → Prop) (vl' vm' : Value) (us' : List Value) (ms' : List Wd),
    w'.heap[B]? = some (.cells #[va, vl', vm', .int .i64 last'] 74 (0, 0)) ∧ Lists w' D' B vl' vm' us' ms' ∧ us'.length = ms'.length ∧ us'.length ≤ us.length + 9 ∧
    q w' Fx' bx ts' ∧ r w' Fy' byy ts' ∧ (∀ k, Fy' k → k < w'.heap.size) ∧ Apart w' Fx' Fy' D' B vl' vm' ∧
    (∀ k, Fx' k → Fx k ∨ w.heap.size ≤ k) ∧ (∀ k, Fy' k → Fy k ∨ w.heap.size ≤ k) ∧ (∀ k, D' k → D k ∨ w.heap.size ≤ k) ∧
    (∀ k, vl'.ownBlock = some k → vl.ownBlock = some k ∨ w.heap.size ≤ k) ∧ (∀ k, vm'.ownBlock = some k → vm.ownBlock = some k ∨ w.heap.size ≤ k)
  frame : FrameF (fun k => Fx k ∨ Fy k ∨ k = B ∨ vl.ownBlock = some k ∨ vm.ownBlock = some k) w w'
  le : last' ≤ last + 1

/-- Ahead of a step: all that is known. -/
structure BeforeG {σ : Type} (q r : World → (Nat → Prop) → Nat → σ → Prop) (w : World) (Fx Fy D : Nat → Prop) (B bx byy : Nat) (va vl vm : Value) (last : Nat) (us : List Value) (ms : List Wd) (ts : σ) : Prop where
  heap : w.heap[B]? = some (.cells #[va, vl, vm, .int .i64 last] 74 (0, 0))
  lists : Lists w D B vl vm us ms
  len : us.length = ms.length
  x : q w Fx bx ts
  y : r w Fy byy ts
  fy : ∀ k, Fy k → k < w.heap.size
  apart : Apart w Fx Fy D B vl vm
  lastB : last ≤ 1073741824
  usB : us.length ≤ 17179869184

section
variable {σ : Type} {q r : World → (Nat → Prop) → Nat → σ → Prop} {s0 : σ}

/-- Behind Observe of both. -/
theorem after_turn {w w0 w1 w2 : World} {Fx Fy Fx1 Fy2 D : Nat → Prop} {B bx byy last : Nat} {va vl vm : Value} {us : List Value} {ms : List Wd} {ts ts' : σ} (hp : ProgN q r s0)
    (hB : w.heap[B]? = some (.cells #[va, vl, vm, .int .i64 last] 74 (0, 0))) (hL : Lists w D B vl vm us ms) (hlen : us.length = ms.length)
    (hx : q w Fx bx ts) (hFy : ∀ k, Fy k → k < w.heap.size) (hA : Apart w Fx Fy D B vl vm) (h0 : Below w.heap.size w w0)
    (hx1 : q w1 Fx1 bx ts') (hFx1 : ∀ k, Fx1 k → Fx k ∨ w0.heap.size ≤ k) (hf1 : FrameF Fx w0 w1) (hy2 : r w2 Fy2 byy ts') (hFy2 : ∀ k, Fy2 k → Fy k ∨ w1.heap.size ≤ k) (hf2 : FrameF Fy w1 w2) :
    AfterG q r w w2 Fx Fy D B bx byy va vl vm last us ts' last := by
  have hz0 := h0.size
  have hz1 := hf1.size
  have hz2 := hf2.size
  have hFx := hp.okq.lt hx
  have hFx1l := hp.okq.lt hx1
  have hBz : B < w.heap.size := by
    by_cases hh : B < w.heap.size
    · exact hh
    · rw [Array.getElem?_eq_none (by omega)] at hB; simp at hB
  have hold : ∀ k, k < w.heap.size → ¬ Fx k → ¬ Fy k → w2.heap[k]? = w.heap[k]? := fun k hk h1 h2 => by
    rw [hf2.block k (by omega) h2, hf1.block k (by omega) h1, h0.block k hk]
  refine ⟨⟨Fx1, Fy2, D, vl, vm, us, ms, ?_, ?_, hlen, by omega, ?_, hy2, ?_, ?_, ?_, ?_, fun k hk => Or.inl hk, fun k hk => Or.inl hk, fun k hk => Or.inl hk⟩, ?_, by omega⟩
  · rw [hold B hBz hA.xB hA.yB]; exact hB
  · refine hL.stay (by omega) (fun k hk => hold k (hL.dlt k hk) (fun h => hA.xD k h hk) (fun h => hA.yD k h hk)) (fun k hk => hold k (hL.ol.lt k hk).2 (hA.xl k hk) (hA.yl k hk)) (fun k hk => hold k (hL.om.lt k hk).2 (hA.xm k hk) (hA.ym k hk))
  · refine hp.okq.stay hx1 hz2 (fun k hk => hf2.block k (hFx1l k hk) (fun h => ?_))
    rcases hFx1 k hk with h1 | h1
    · exact hA.xy k h1 h
    · have := hFy k h; omega
  · exact hp.okr.lt hy2
  · refine ⟨fun k hk hy => ?_, fun k hk hd => ?_, fun k hk hd => ?_, fun hk => ?_, fun hk => ?_, fun k hv hk => ?_, fun k hv hk => ?_, fun k hv hk => ?_, fun k hv hk => ?_⟩
    · have := hFx1l k hk
      rcases hFy2 k hy with h1 | h1
      · rcases hFx1 k hk with h2 | h2
        · exact hA.xy k h2 h1
        · have := hFy k h1; omega
      · omega
    · have := hL.dlt k hd
      rcases hFx1 k hk with h2 | h2
      · exact hA.xD k h2 hd
      · omega
    · have := hL.dlt k hd
      rcases hFy2 _ hk with h2 | h2
      · exact hA.yD k h2 hd
      · omega
    · rcases hFx1 B hk with h2 | h2
      · exact hA.xB h2
      · omega
    · rcases hFy2 _ hk with h2 | h2
      · exact hA.yB h2
      · omega
    · have := (hL.ol.lt k hv).2
      rcases hFx1 k hk with h2 | h2
      · exact hA.xl k hv h2
      · omega
    · have := (hL.ol.lt k hv).2
      rcases hFy2 _ hk with h2 | h2
      · exact hA.yl k hv h2
      · omega
    · have := (hL.om.lt k hv).2
      rcases hFx1 k hk with h2 | h2
      · exact hA.xm k hv h2
      · omega
    · have := (hL.om.lt k hv).2
      rcases hFy2 _ hk with h2 | h2
      · exact hA.ym k hv h2
      · omega
  · intro k hk
    rcases hFx1 k hk with h2 | h2
    · exact Or.inl h2
    · exact Or.inr (by omega)
  · intro k hk
    rcases hFy2 _ hk with h2 | h2
    · exact Or.inl h2
    · exact Or.inr (by omega)
  · refine ⟨(hf2.os.trans hf1.os).trans h0.os, (hf2.tape.trans hf1.tape).trans h0.tape, (hf2.output.trans hf1.output).trans h0.output, by omega, fun k hk hn => ?_⟩
    exact hold k hk (fun h => hn (Or.inl h)) (fun h => hn (Or.inr (Or.inl h)))
end

structure EngG (σ : Type) where
  bx : Nat
  byy : Nat
  fx : Nat → Prop
  fy : Nat → Prop
  ts : σ

def EngG.f {σ : Type} (e : EngG σ) (k : Nat) : Prop := e.fx k ∨ e.fy k
def pairG {σ : Type} (es : List (EngG σ)) : List Value := es.flatMap fun e => [.pointer (some ⟨e.bx, 0, none⟩), .pointer (some ⟨e.byy, 0, none⟩)]

theorem pairG_snoc {σ : Type} (es : List (EngG σ)) (e : EngG σ) : pairG (es ++ [e]) = pairG es ++ [.pointer (some ⟨e.bx, 0, none⟩), .pointer (some ⟨e.byy, 0, none⟩)] := by simp [pairG]
theorem pairG_set {σ : Type} (es : List (EngG σ)) : ∀ (i : Nat) (e : EngG σ) (h : i < es.length), e.bx = es[i].bx → e.byy = es[i].byy → pairG (es.set i e) = pairG es := by
  induction es with
  | nil => intro i e h; simp at h
  | cons a es ih =>
    intro i e h h1 h2
    cases i with
    | zero => simp at h1 h2; simp [pairG, h1, h2]
    | succ i =>
      have := ih i e (by simpa using h) (by simpa using h1) (by simpa using h2)
      simp only [pairG, List.set_cons_succ, List.flatMap_cons] at this ⊢
      rw [this]
theorem pairG_get {σ : Type} (es : List (EngG σ)) : ∀ (i : Nat) (h : i < es.length), (pairG es)[2 * i]? = some (.pointer (some ⟨es[i].bx, 0, none⟩)) ∧ (pairG es)[2 * i + 1]? = some (.pointer (some ⟨es[i].byy, 0, none⟩)) := by
  induction es with
  | nil => intro i h; simp at h
  | cons a es ih =>
    intro i h
    cases i with
    | zero => simp [pairG]
    | succ i =>
      have := ih i (by simpa using h)
      have e : pairG (a :: es) = .pointer (some ⟨a.bx, 0, none⟩) :: .pointer (some ⟨a.byy, 0, none⟩) :: pairG es := by simp [pairG]
      rw [e, show 2 * (i + 1) = 2 * i + 1 + 1 by omega]
      simpa using this

section
variable {σ : Type} (q r : World → (Nat → Prop) → Nat → σ → Prop)

structure EngOKG (w : World) (D : Nat → Prop) (B : Nat) (va vl vm : Value) (e : EngG σ) : Prop where
  x : q w e.fx e.bx e.ts
  y : r w e.fy e.byy e.ts
  fy : ∀ k, e.fy k → k < w.heap.size
  apart : Apart w e.fx e.fy D B vl vm
  ra : ∀ k, va.ownBlock = some k → ¬ e.f k

/-- w0: the world in which all began. -/
structure GG (w0 w : World) (B : Nat) (D : Nat → Prop) (va vl vm : Value) (last : Nat) (us : List Value) (ms : List Wd) (es : List (EngG σ)) : Prop where
  heap : w.heap[B]? = some (.cells #[va, vl, vm, .int .i64 last] 74 (0, 0))
  lists : Lists w D B vl vm us ms
  len : us.length = ms.length
  row : w.ownsRow 0 122 2 va es.length (pairG es)
  rD : ∀ k, va.ownBlock = some k → ¬ D k
  eng : ∀ i (h : i < es.length), EngOKG q r w D B va vl vm es[i]
  two : ∀ i j (hi : i < es.length) (hj : j < es.length), i ≠ j → ∀ k, es[i].f k → ¬ es[j].f k
  base : Below w0.heap.size w0 w
  loB : w0.heap.size ≤ B
  loa : ∀ k, va.ownBlock = some k → w0.heap.size ≤ k
  lol : ∀ k, vl.ownBlock = some k → w0.heap.size ≤ k
  lom : ∀ k, vm.ownBlock = some k → w0.heap.size ≤ k
  loD : ∀ k, D k → w0.heap.size ≤ k
  loE : ∀ i (h : i < es.length), ∀ k, es[i].f k → w0.heap.size ≤ k
end

section
variable {σ : Type} {q r : World → (Nat → Prop) → Nat → σ → Prop} {s0 : σ} {sz : σ → Nat}

theorem GG.bz {w0 w : World} {B : Nat} {D : Nat → Prop} {va vl vm : Value} {last : Nat} {us : List Value} {ms : List Wd} {es : List (EngG σ)} (h : GG q r w0 w B D va vl vm last us ms es) : B < w.heap.size := by
  by_cases hh : B < w.heap.size
  · exact hh
  · have := h.heap; rw [Array.getElem?_eq_none (by omega)] at this; simp at this

/-- A step of one engine. -/
theorem GG.after (hp : ProgN q r s0) {w0 w w' : World} {B : Nat} {D : Nat → Prop} {va vl vm : Value} {last last' : Nat} {us : List Value} {ms : List Wd} {es : List (EngG σ)} {ts' : σ} (h : GG q r w0 w B D va vl vm last us ms es)
    (i : Nat) (hi : i < es.length) (ha : AfterG q r w w' es[i].fx es[i].fy D B es[i].bx es[i].byy va vl vm last us ts' last') :
    ∃ (D' : Nat → Prop) (vl' vm' : Value) (us' : List Value) (ms' : List Wd) (e' : EngG σ), GG q r w0 w' B D' va vl' vm' last' us' ms' (es.set i e') ∧ e'.ts = ts' ∧ us'.length ≤ us.length + 9 := by
  obtain ⟨⟨Fx', Fy', D', vl', vm', us', ms', hB', hL', hlen', hle', hx', hy', hfy', hap', hFx, hFy, hD, hvl, hvm⟩, hfr, _⟩ := ha
  have hzz := h.base.size
  have hz := hfr.size
  have hE := h.eng i hi
  have hfxl := hp.okq.lt hE.x
  -- what is not touched
  have hold : ∀ k, k < w.heap.size → ¬ es[i].f k → k ≠ B → vl.ownBlock ≠ some k → vm.ownBlock ≠ some k → w'.heap[k]? = w.heap[k]? := fun k hk h1 h2 h3 h4 => by
    refine hfr.block k hk (fun hh => ?_)
    rcases hh with hh | hh | hh | hh | hh
    · exact h1 (Or.inl hh)
    · exact h1 (Or.inr hh)
    · exact h2 hh
    · exact h3 hh
    · exact h4 hh
  have hvaB : va.ownBlock ≠ some B := blk_ne_wide h.heap h.row (by decide)
  have hva : ∀ k, va.ownBlock = some k → w'.heap[k]? = w.heap[k]? := fun k hk =>
    hold k (h.row.lt k hk).2 (hE.ra k hk) (fun e => hvaB (by rw [← e]; exact hk)) (fun e => owns_ne_wide h.row h.lists.ol (by decide) k hk e) (fun e => owns_ne_wide h.row h.lists.om (by decide) k hk e)
  have hfl : ∀ j (hj : j < es.length), ∀ k, es[j].f k → k < w.heap.size := fun j hj k hk => by
    rcases hk with hk | hk
    · exact hp.okq.lt (h.eng j hj).x k hk
    · exact (h.eng j hj).fy k hk
  have hoth : ∀ j (hj : j < es.length), j ≠ i → ∀ k, es[j].f k → w'.heap[k]? = w.heap[k]? := fun j hj hne k hk => by
    refine hold k (hfl j hj k hk) (fun hh => h.two j i hj hi hne k hk hh) (fun e => ?_) (fun e => ?_) (fun e => ?_)
    · rcases hk with hk | hk
      · exact (h.eng j hj).apart.xB (e ▸ hk)
      · exact (h.eng j hj).apart.yB (e ▸ hk)
    · rcases hk with hk | hk
      · exact (h.eng j hj).apart.xl k e hk
      · exact (h.eng j hj).apart.yl k e hk
    · rcases hk with hk | hk
      · exact (h.eng j hj).apart.xm k e hk
      · exact (h.eng j hj).apart.ym k e hk
  have hf' : ∀ k, Fx' k ∨ Fy' k → es[i].f k ∨ w.heap.size ≤ k := fun k hk => by
    rcases hk with hk | hk
    · rcases hFx k hk with h1 | h1
      · exact Or.inl (Or.inl h1)
      · exact Or.inr h1
    · rcases hFy k hk with h1 | h1
      · exact Or.inl (Or.inr h1)
      · exact Or.inr h1
  refine ⟨D', vl', vm', us', ms', ⟨es[i].bx, es[i].byy, Fx', Fy', ts'⟩, ⟨hB', hL', hlen', ?_, ?_, ?_, ?_, ?_, h.loB, h.loa, ?_, ?_, ?_, ?_⟩, rfl, hle'⟩
  · rw [pairG_set es i ⟨es[i].bx, es[i].byy, Fx', Fy', ts'⟩ hi rfl rfl, List.length_set]
    exact owns_stay_wide h.row hva
  · intro k hk hd
    rcases hD k hd with h1 | h1
    · exact h.rD k hk h1
    · have := (h.row.lt k hk).2; omega
  · intro j hj
    rw [List.length_set] at hj
    rw [List.getElem_set]
    split
    · refine ⟨hx', hy', hfy', hap', fun k hk hh => ?_⟩
      rcases hf' k hh with h1 | h1
      · exact hE.ra k hk h1
      · have := (h.row.lt k hk).2; omega
    · rename_i hne
      have hEj := h.eng j hj
      have hkeep := hoth j hj (fun e => hne e.symm)
      have hlt := hfl j hj
      refine ⟨hp.okq.stay hEj.x hz (fun k hk => hkeep k (Or.inl hk)), hp.okr.stay hEj.y hz (fun k hk => hkeep k (Or.inr hk)), fun k hk => by have := hlt k (Or.inr hk); omega, ?_, hEj.ra⟩
      have hA := hEj.apart
      refine ⟨hA.xy, fun k hk hd => ?_, fun k hk hd => ?_, hA.xB, hA.yB, fun k hv hk => ?_, fun k hv hk => ?_, fun k hv hk => ?_, fun k hv hk => ?_⟩
      · rcases hD k hd with h1 | h1
        · exact hA.xD k hk h1
        · have := hlt k (Or.inl hk); omega
      · rcases hD k hd with h1 | h1
        · exact hA.yD k hk h1
        · have := hlt k (Or.inr hk); omega
      · rcases hvl k hv with h1 | h1
        · exact hA.xl k h1 hk
        · have := hlt k (Or.inl hk); omega
      · rcases hvl k hv with h1 | h1
        · exact hA.yl k h1 hk
        · have := hlt k (Or.inr hk); omega
      · rcases hvm k hv with h1 | h1
        · exact hA.xm k h1 hk
        · have := hlt k (Or.inl hk); omega
      · rcases hvm k hv with h1 | h1
        · exact hA.ym k h1 hk
        · have := hlt k (Or.inr hk); omega
  · intro a b ha hb hne k hka hkb
    rw [List.length_set] at ha hb
    rw [List.getElem_set] at hka hkb
    split at hka
    · rename_i e1
      split at hkb
      · omega
      · rename_i e2
        rcases hf' k hka with h1 | h1
        · exact h.two i b hi hb e2 k h1 hkb
        · have := hfl b hb k hkb; omega
    · rename_i e1
      split at hkb
      · rcases hf' k hkb with h1 | h1
        · exact h.two a i ha hi (fun e => e1 e.symm) k hka h1
        · have := hfl a ha k hka; omega
      · exact h.two a b ha hb hne k hka hkb
  · refine ⟨hfr.os.trans h.base.os, hfr.tape.trans h.base.tape, hfr.output.trans h.base.output, by have := h.base.size; omega, fun k hk => ?_⟩
    have hb0 := h.base.size
    rw [hfr.block k (by omega) (fun hh => ?_), h.base.block k hk]
    rcases hh with hh | hh | hh | hh | hh
    · have := h.loE i hi k (Or.inl hh); omega
    · have := h.loE i hi k (Or.inr hh); omega
    · have := h.loB; omega
    · have := h.lol k hh; omega
    · have := h.lom k hh; omega
  · intro k hk
    rcases hvl k hk with h1 | h1
    · exact h.lol k h1
    · have := h.base.size; omega
  · intro k hk
    rcases hvm k hk with h1 | h1
    · exact h.lom k h1
    · have := h.base.size; omega
  · intro k hk
    rcases hD k hk with h1 | h1
    · exact h.loD k h1
    · have := h.base.size; omega
  · intro j hj k hk
    rw [List.length_set] at hj
    rw [List.getElem_set] at hk
    split at hk
    · rcases hf' k hk with h1 | h1
      · exact h.loE i hi k h1
      · have := h.base.size; omega
    · exact h.loE j hj k hk
end

section
variable {σ : Type} {q r : World → (Nat → Prop) → Nat → σ → Prop} {s0 : σ} {sz : σ → Nat}

theorem GG.made (hp : ProgN q r s0) {w0 w w1 w2 : World} {B bx : Nat} {D Fx : Nat → Prop} {va va' vl vm : Value} {last : Nat} {us : List Value} {ms : List Wd} {es : List (EngG σ)} {o : Obj} (h : GG q r w0 w B D va vl vm last us ms es)
    (hb1 : Below w.heap.size w w1) (hx1 : q w1 Fx bx s0) (hFx : ∀ k, Fx k → w.heap.size ≤ k)
    (ho : w2.ownsRow 0 122 2 va' (es.length + 1) (pairG es ++ [.pointer (some ⟨bx, 0, none⟩), .pointer (some ⟨w1.heap.size, 0, none⟩)]))
    (hg : ((w1.alloc (.cells #[vNil, vNil, vNil] 120)).alloc o).grownBy w2 va.ownBlock) (hk : va'.ownBlock = va.ownBlock ∨ va'.ownBlock = some (w1.heap.size + 2)) :
    w2.heap[B]? = some (.cells #[va, vl, vm, .int .i64 last] 74 (0, 0)) ∧
    GG q r w0 (w2.setCell ⟨B, 0, none⟩ va') B D va' vl vm last us ms (es ++ [⟨bx, w1.heap.size, Fx, fun k => k = w1.heap.size, s0⟩]) := by
  have hz1 := hb1.size
  have hz2 : w1.heap.size + 2 ≤ w2.heap.size := by have := hg.size; simpa using this
  have hBz := h.bz
  have hx1l := hp.okq.lt hx1
  have hvaB : va.ownBlock ≠ some B := blk_ne_wide h.heap h.row (by decide)
  have hval : ∀ k, va.ownBlock = some k → k < w.heap.size := fun k hk => (h.row.lt k hk).2
  -- the blocks between
  have hold : ∀ k, k < w.heap.size → va.ownBlock ≠ some k → w2.heap[k]? = w.heap[k]? := fun k hk hne => by
    rw [hg.block k (by simp; omega) (fun e => hne e.symm), Below.heap_alloc _ _ _ (by simp; omega), Below.heap_alloc _ _ _ (by omega), hb1.block k hk]
  have hnew : ∀ k, w.heap.size ≤ k → k < w1.heap.size → w2.heap[k]? = w1.heap[k]? := fun k hk hk1 => by
    rw [hg.block k (by simp; omega) (fun e => by have := hval k e.symm; omega), Below.heap_alloc _ _ _ (by simp; omega), Below.heap_alloc _ _ _ (by omega)]
  have hy : w2.heap[w1.heap.size]? = some (.cells #[vNil, vNil, vNil] 120 (0, 0)) := by
    rw [hg.block _ (by simp; omega) (fun e => by have := hval _ e.symm; omega), Below.heap_alloc _ _ _ (by simp)]
    show (w1.heap.push _)[w1.heap.size]? = _
    rw [Array.getElem?_push, if_pos rfl]
  have hB2 : w2.heap[B]? = some (.cells #[va, vl, vm, .int .i64 last] 74 (0, 0)) := by rw [hold B hBz hvaB]; exact h.heap
  have hfar : ∀ k, k ≠ B → (w2.setCell ⟨B, 0, none⟩ va').heap[k]? = w2.heap[k]? := fun k hk => Below.heap_setCell _ _ _ _ hk
  have hsz : (w2.setCell ⟨B, 0, none⟩ va').heap.size = w2.heap.size := by simp [World.setCell]
  have hall : ∀ k, k < w.heap.size → va.ownBlock ≠ some k → k ≠ B → (w2.setCell ⟨B, 0, none⟩ va').heap[k]? = w.heap[k]? := fun k hk h1 h2 => by rw [hfar k h2, hold k hk h1]
  have hfl : ∀ j (hj : j < es.length), ∀ k, es[j].f k → k < w.heap.size := fun j hj k hk => by
    rcases hk with hk | hk
    · exact hp.okq.lt (h.eng j hj).x k hk
    · exact (h.eng j hj).fy k hk
  have hkeep : ∀ j (hj : j < es.length), ∀ k, es[j].f k → (w2.setCell ⟨B, 0, none⟩ va').heap[k]? = w.heap[k]? := fun j hj k hk => by
    refine hall k (hfl j hj k hk) (fun e => (h.eng j hj).ra k e hk) (fun e => ?_)
    rcases hk with hk | hk
    · exact (h.eng j hj).apart.xB (e ▸ hk)
    · exact (h.eng j hj).apart.yB (e ▸ hk)
  have hva' : ∀ k, va'.ownBlock = some k → va.ownBlock = some k ∨ k = w1.heap.size + 2 := fun k hk' => by
    rcases hk with h1 | h1
    · exact Or.inl (by rw [← h1]; exact hk')
    · rw [h1] at hk'; simp only [Option.some.injEq] at hk'; exact Or.inr hk'.symm
  have hbs := h.base.size
  refine ⟨hB2, ?_, ?_, h.len, ?_, ?_, ?_, ?_, ?_, h.loB, ?_, h.lol, h.lom, h.loD, ?_⟩
  · rw [heap_set hB2]; rfl
  · refine h.lists.stay (by rw [hsz]; omega) (fun k hd => hall k (h.lists.dlt k hd) (fun e => h.rD k e hd) (fun e => h.lists.dB (e ▸ hd))) (fun k hv => hall k (h.lists.ol.lt k hv).2 (fun e => owns_ne_wide h.row h.lists.ol (by decide) k e hv) (fun e => blk_ne h.heap h.lists.ol (by decide) (e ▸ hv))) (fun k hv => hall k (h.lists.om.lt k hv).2 (fun e => owns_ne_wide h.row h.lists.om (by decide) k e hv) (fun e => blk_ne h.heap h.lists.om (by decide) (e ▸ hv)))
  · have e1 : (es ++ [(⟨bx, w1.heap.size, Fx, fun k => k = w1.heap.size, s0⟩ : EngG σ)]).length = es.length + 1 := by simp
    rw [e1, pairG_snoc]
    refine owns_stay_wide ho (fun k hk' => hfar k (fun e => ?_))
    subst e
    exact blk_ne_wide hB2 ho (by decide) hk'
  · intro k hk' hd
    rcases hva' k hk' with h1 | h1
    · exact h.rD k h1 hd
    · have := h.lists.dlt k hd; omega
  · intro j hj
    by_cases hlt : j < es.length
    · rw [getElem_snoc_lt _ _ _ hlt]
      have hEj := h.eng j hlt
      refine ⟨hp.okq.stay hEj.x (by rw [hsz]; omega) (fun k hk' => hkeep j hlt k (Or.inl hk')), hp.okr.stay hEj.y (by rw [hsz]; omega) (fun k hk' => hkeep j hlt k (Or.inr hk')), fun k hk' => by have := hfl j hlt k (Or.inr hk'); rw [hsz]; omega, ⟨hEj.apart.xy, hEj.apart.xD, hEj.apart.yD, hEj.apart.xB, hEj.apart.yB, hEj.apart.xl, hEj.apart.yl, hEj.apart.xm, hEj.apart.ym⟩, fun k hk' hf => ?_⟩
      rcases hva' k hk' with h1 | h1
      · exact hEj.ra k h1 hf
      · have := hfl j hlt k hf; omega
    · rw [getElem_snoc_eq _ _ _ hlt]
      refine ⟨?_, ?_, ?_, ?_, ?_⟩
      · refine hp.okq.stay hx1 (by rw [hsz]; omega) (fun k hk' => ?_)
        have h1 := hFx k hk'
        rw [hfar k (by omega), hnew k h1 (hx1l k hk')]
      · exact hp.rnew _ _ (by rw [hsz]; omega) (by rw [hfar _ (by omega)]; exact hy)
      · intro k hk'
        have e : k = w1.heap.size := hk'
        rw [hsz]; omega
      · refine ⟨fun k h1 h2 => ?_, fun k h1 hd => ?_, fun k h1 hd => ?_, fun h1 => ?_, fun h1 => ?_, fun k hv h1 => ?_, fun k hv h1 => ?_, fun k hv h1 => ?_, fun k hv h1 => ?_⟩
        · have e : k = w1.heap.size := h2
          have := hx1l k h1; omega
        · have := hFx k h1; have := h.lists.dlt k hd; omega
        · have e : k = w1.heap.size := h1
          have := h.lists.dlt k hd; omega
        · have := hFx B h1; omega
        · have e : B = w1.heap.size := h1
          omega
        · have := hFx k h1; have := (h.lists.ol.lt k hv).2; omega
        · have e : k = w1.heap.size := h1
          have := (h.lists.ol.lt k hv).2; omega
        · have := hFx k h1; have := (h.lists.om.lt k hv).2; omega
        · have e : k = w1.heap.size := h1
          have := (h.lists.om.lt k hv).2; omega
      · intro k hk' hf
        rcases hva' k hk' with h1 | h1
        · have hl := hval k h1
          rcases hf with hf | hf
          · have := hFx k hf; omega
          · have e : k = w1.heap.size := hf
            omega
        · rcases hf with hf | hf
          · have := hx1l k hf; omega
          · have e : k = w1.heap.size := hf
            omega
  · intro a b ha hb hne k hka hkb
    have hnewf : ∀ k, (EngG.f ⟨bx, w1.heap.size, Fx, fun k => k = w1.heap.size, s0⟩ k) → w.heap.size ≤ k := fun k hk' => by
      rcases hk' with h1 | h1
      · exact hFx k h1
      · have e : k = w1.heap.size := h1
        omega
    by_cases hla : a < es.length
    · rw [getElem_snoc_lt _ _ _ hla] at hka
      by_cases hlb : b < es.length
      · rw [getElem_snoc_lt _ _ _ hlb] at hkb
        exact h.two a b hla hlb hne k hka hkb
      · rw [getElem_snoc_eq _ _ _ hlb] at hkb
        have := hnewf k hkb; have := hfl a hla k hka; omega
    · rw [getElem_snoc_eq _ _ _ hla] at hka
      by_cases hlb : b < es.length
      · rw [getElem_snoc_lt _ _ _ hlb] at hkb
        have := hnewf k hka; have := hfl b hlb k hkb; omega
      · simp at ha hb; omega
  · refine ⟨(hg.os.trans hb1.os).trans h.base.os, (hg.tape.trans hb1.tape).trans h.base.tape, (hg.output.trans hb1.output).trans h.base.output, by rw [hsz]; omega, fun k hk' => ?_⟩
    have := h.loB
    rw [hall k (by omega) (fun e => by have := h.loa k e; omega) (by omega), h.base.block k hk']
  · intro k hk'
    rcases hva' k hk' with h1 | h1
    · exact h.loa k h1
    · omega
  · intro j hj k hk'
    by_cases hlt : j < es.length
    · rw [getElem_snoc_lt _ _ _ hlt] at hk'
      exact h.loE j hlt k hk'
    · rw [getElem_snoc_eq _ _ _ hlt] at hk'
      rcases hk' with h1 | h1
      · have := hFx k h1; omega
      · have e : k = w1.heap.size := h1
        omega
set_option maxHeartbeats 1000000 in
set_option maxRecDepth 100000 in
theorem made_anyG (hp : ProgN q r s0) (w0 w : World) (B : Nat) (D : Nat → Prop) (va vl vm : Value) (last : Nat) (us : List Value) (ms : List Wd) (es : List (EngG σ)) (h : GG q r w0 w B D va vl vm last us ms es) (hle : es.length ≤ 10) :
    Calls Tryz.prog 40 #[.pointer (some ⟨B, 0, none⟩)] w fun e w' => e = .returned (.bool true) ∧ ∃ (va' : Value) (en : EngG σ), en.ts = s0 ∧ GG q r w0 w' B D va' vl vm last us ms (es ++ [en]) := by
  obtain ⟨i3, hi3, hz0, hz1, hz2⟩ := info_parts Tryz.infoPair
  have HP : Hid (ProgN q r s0) := hp
  have HG : Hid (GG q r w0 w B D va vl vm last us ms es) := h
  have hBz := h.bz
  clear hp h
  go_enter Tryz.func40, Tryz.ntmps40
  go_wp2_with fail
  refine (HP.out.new w).mono ?_
  rintro e w1 ⟨bx, Fx, rfl, hx1, hFx, hb1⟩
  have hz1' := hb1.size
  have hB1 : w1.heap[B]? = some (.cells #[va, vl, vm, .int .i64 last] 74 (0, 0)) := by rw [hb1.block B hBz]; exact HG.out.heap
  have hrow1 : w1.ownsRow 0 122 2 va es.length (pairG es) := owns_stay_wide HG.out.row (fun k hk => hb1.block k (HG.out.row.lt k hk).2)
  have hc0 : w1.cell? ⟨B, 0, none⟩ = some va := by rw [cell_of_heap hB1]; rfl
  have HX1 : Hid (q w1 Fx bx s0) := hx1
  have HB1 : Hid (w1.heap[B]? = some (.cells #[va, vl, vm, .int .i64 last] 74 (0, 0))) := hB1
  clear hx1 hB1
  go_wp2_with (at_builtin; go_must (refine wpList_append_wide _ rfl _ _ 71 rfl 0 122 i3 (.agg #[.pointer none, .pointer none]) 2 16 Tryz.underlying71 hi3 hz0 hz1 hz2 rfl (by decide) _ _ _ rfl ((hrow1.alloc _).alloc _) ⟨w1.heap.size + 1, 0, none⟩ 1 1 [.pointer (some ⟨bx, 0, none⟩), .pointer (some ⟨w1.heap.size, 0, none⟩)] rfl rfl (by decide) ?c0 ?c1 ?c2 ?c3 ?c4 ?_))
  case c0 => exact pair_cells (by simp)
  case c1 =>
    intro u hu
    simp only [List.mem_cons, List.not_mem_nil, or_false] at hu
    rcases hu with rfl | rfl <;> rfl
  case c2 => unfold maxLen; omega
  case c3 => omega
  case c4 => exact Nat.zero_le _
  intro va' w2 ho2 hg2 hk2
  obtain ⟨a2, c2, rfl, hc2⟩ := owns_slice_wide ho2
  have hmd := HG.out.made HP.out hb1 HX1.out hFx ho2 hg2 hk2
  have hc20 : w2.cell? ⟨B, 0, none⟩ = some va := by rw [cell_of_heap hmd.1]; rfl
  have hf20 : w2.frozen? ⟨B, 0, none⟩ = false := frozen_of_heap hmd.1 0
  have HM : Hid (GG q r w0 (w2.setCell ⟨B, 0, none⟩ (.slice a2 (es.length + 1) c2)) B D (.slice a2 (es.length + 1) c2) vl vm last us ms (es ++ [⟨bx, w1.heap.size, Fx, fun k => k = w1.heap.size, s0⟩])) := hmd.2
  clear hmd ho2 hg2 hk2 hb1 hFx hrow1 HB1 HX1 HG HP
  go_wp2
  go_ret
  exact ⟨rfl, _, _, rfl, HM.out⟩
end

section
variable {σ : Type} {q r : World → (Nat → Prop) → Nat → σ → Prop} {s0 : σ} {sz : σ → Nat}

theorem GG.below (hp : ProgN q r s0) {w0 w w' : World} {B : Nat} {D : Nat → Prop} {va vl vm : Value} {last : Nat} {us : List Value} {ms : List Wd} {es : List (EngG σ)} (h : GG q r w0 w B D va vl vm last us ms es) (hb : Below w.heap.size w w') :
    GG q r w0 w' B D va vl vm last us ms es := by
  have hz := hb.size
  refine ⟨by rw [hb.block B h.bz]; exact h.heap, h.lists.stay hz (fun k hk => hb.block k (h.lists.dlt k hk)) (fun k hk => hb.block k (h.lists.ol.lt k hk).2) (fun k hk => hb.block k (h.lists.om.lt k hk).2), h.len, owns_stay_wide h.row (fun k hk => hb.block k (h.row.lt k hk).2), h.rD, fun i hi => ?_, h.two, ?_, h.loB, h.loa, h.lol, h.lom, h.loD, h.loE⟩
  · have hE := h.eng i hi
    exact ⟨hp.okq.stay hE.x hz (fun k hk => hb.block k (hp.okq.lt hE.x k hk)), hp.okr.stay hE.y hz (fun k hk => hb.block k (hE.fy k hk)), fun k hk => by have := hE.fy k hk; omega, ⟨hE.apart.xy, hE.apart.xD, hE.apart.yD, hE.apart.xB, hE.apart.yB, hE.apart.xl, hE.apart.yl, hE.apart.xm, hE.apart.ym⟩, hE.ra⟩
  · exact h.base.trans (hb.mono h.base.size)

/-- The state behind a step. -/
def NextG (q r : World → (Nat → Prop) → Nat → σ → Prop) (sz : σ → Nat) (w0 w' : World) (B last : Nat) (us : List Value) (es : List (EngG σ)) (M : Nat) : Prop :=
  ∃ (D' : Nat → Prop) (va' vl' vm' : Value) (last' : Nat) (us' : List Value) (ms' : List Wd) (es' : List (EngG σ)), GG q r w0 w' B D' va' vl' vm' last' us' ms' es' ∧ last' ≤ last + 1 ∧ us'.length ≤ us.length + 9 ∧ es.length ≤ es'.length ∧ es'.length ≤ es.length + 1 ∧
    (∀ i (h : i < es'.length), sz es'[i].ts ≤ M + 25)

theorem row_cellsG {w : World} {B : Nat} {D : Nat → Prop} {va vl vm : Value} {w0 : World} {last : Nat} {us : List Value} {ms : List Wd} {es : List (EngG σ)} (h : GG q r w0 w B D va vl vm last us ms es) (i : Nat) (hi : i < es.length) :
    ∃ g c, va = .slice (some ⟨g, 0, none⟩) es.length c ∧ w.cell? ⟨g, i * 2, none⟩ = some (.pointer (some ⟨es[i].bx, 0, none⟩)) ∧ w.cell? ⟨g, i * 2 + 1, none⟩ = some (.pointer (some ⟨es[i].byy, 0, none⟩)) := by
  rcases h.row.2 with ⟨_, h0⟩ | ⟨g, cap, cur, he, _⟩
  · omega
  · have hc := h.row.cells (g := g) (by rw [he]; rfl)
    have hp := pairG_get es i hi
    refine ⟨g, cap, he, ?_, ?_⟩
    · have := hc (2 * i) _ hp.1
      rw [Addr.add_lit, Nat.zero_add, Nat.mul_comm] at this
      exact this
    · have := hc (2 * i + 1) _ hp.2
      rw [Addr.add_lit, Nat.zero_add, Nat.mul_comm] at this
      exact this

set_option maxHeartbeats 1000000 in
set_option maxRecDepth 100000 in
theorem step_newG (hp : ProgN q r s0) (w0 w : World) (B : Nat) (D : Nat → Prop) (va vl vm : Value) (last : Nat) (us : List Value) (ms : List Wd) (es : List (EngG σ)) (M : Nat) (W N Mm K : Int) (S T : ByteArray) (L : Value) (made : Bool)
    (h : GG q r w0 w B D va vl vm last us ms es) (hle : es.length ≤ 10) (hLs : ∃ a n c, L = .slice a n c) (hs0 : sz s0 = 0) (hbk : ∀ i (h : i < es.length), sz es[i].ts ≤ M) :
    Calls Tryz.prog 41 #[.pointer (some ⟨B, 0, none⟩), .agg (opV 1 W N Mm K S T L made)] w fun e w' => e = .returned (.bool true) ∧ NextG q r sz w0 w' B last us es M := by
  obtain ⟨aL, nL, cL, rfl⟩ := hLs
  unfold opV
  have HP : Hid (ProgN q r s0) := hp
  have HG : Hid (GG q r w0 w B D va vl vm last us ms es) := h
  have HK : Hid (∀ i (h : i < es.length), sz es[i].ts ≤ M) := hbk
  clear hp h hbk
  go_enter Tryz.func41, Tryz.ntmps41
  go_wp2_with fail
  have hb0 : Below w.heap.size w (w.alloc (.cells #[.int .i64 1, .int .i64 W, .int .i64 N, .int .i64 Mm, .int .i64 K, .string S, .string T, .slice aL nL cL, .bool made] 77)) := (Below.refl _ _).alloc (Nat.le_refl _) _
  refine (made_anyG HP.out w0 _ B D va vl vm last us ms es (HG.out.below HP.out hb0) hle).mono ?_
  rintro e w1 ⟨rfl, va', en, hen, hG'⟩
  have HN : Hid (NextG q r sz w0 w1 B last us es M) := ⟨D, va', vl, vm, last, us, ms, es ++ [en], hG', by omega, by omega, by simp, by simp, fun i hi => by
    by_cases hlt : i < es.length
    · rw [getElem_snoc_lt _ _ _ hlt]; have := HK.out i hlt; omega
    · rw [getElem_snoc_eq _ _ _ hlt, hen, hs0]; omega⟩
  clear hG' hen hb0 HG HP HK
  go_wp2
  go_ret
  exact ⟨rfl, HN.out⟩

theorem GG.before {w0 w : World} {B : Nat} {D : Nat → Prop} {va vl vm : Value} {last : Nat} {us : List Value} {ms : List Wd} {es : List (EngG σ)} (h : GG q r w0 w B D va vl vm last us ms es) (i : Nat) (hi : i < es.length)
    (hl : last ≤ 1073741824) (hu : us.length ≤ 17179869184) : BeforeG q r w es[i].fx es[i].fy D B es[i].bx es[i].byy va vl vm last us ms es[i].ts :=
  ⟨h.heap, h.lists, h.len, (h.eng i hi).x, (h.eng i hi).y, (h.eng i hi).fy, (h.eng i hi).apart, hl, hu⟩
theorem BeforeG.bz {w : World} {Fx Fy D : Nat → Prop} {B bx byy last : Nat} {va vl vm : Value} {us : List Value} {ms : List Wd} {ts : σ} (h : BeforeG q r w Fx Fy D B bx byy va vl vm last us ms ts) : B < w.heap.size := by
  by_cases hh : B < w.heap.size
  · exact hh
  · have := h.heap; rw [Array.getElem?_eq_none (by omega)] at this; simp at this
end

end Go.Proofs.YtocbogeoffeolaaGreatDoor

