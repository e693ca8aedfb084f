/-
  WALKS: hintlaw: tells: Observe and Suggest, the program's and the document's.
-/
import Derived.Test.YtocbogeoffeolaaGreatDoorLaw
namespace Go.Proofs.YtocbogeoffeolaaGreatDoor
open Go.RowKit

/-- An Op as a value. -/
def opV (kind W N M K : Int) (S T : ByteArray) (L : Value) (made : Bool) : Array Value :=
  #[.int .i64 kind, .int .i64 W, .int .i64 N, .int .i64 M, .int .i64 K, .string S, .string T, L, .bool made]

/-- The two engines of a pair, and hintlaw's World, lie apart. -/
structure Apart (w : World) (Fx Fy D : Nat → Prop) (B : Nat) (vl vm : Value) : Prop where
  xy : ∀ k, Fx k → ¬ Fy k
  xD : ∀ k, Fx k → ¬ D k
  yD : ∀ k, Fy k → ¬ D k
  xB : ¬ Fx B
  yB : ¬ Fy B
  xl : ∀ k, vl.ownBlock = some k → ¬ Fx k
  yl : ∀ k, vl.ownBlock = some k → ¬ Fy k
  xm : ∀ k, vm.ownBlock = some k → ¬ Fx k
  ym : ∀ k, vm.ownBlock = some k → ¬ Fy k

/-- What one step leaves: w: ahead of it, w': behind it. -/
structure After (pe : World → (Nat → Prop) → Nat → List (List Wd) → Prop) (w w' : World) (Fx Fy D : Nat → Prop) (B bx byy : Nat) (va vl vm : Value) (last : Nat) (us : List Value) (vB vS : Value) (ts' : List (List Wd)) (last' : Nat) : Prop where
  ex : ∃ (Fx' Fy' D' : Nat → Prop) (vl' vm' : Value) (us' : List Value) (ms' : List Wd),
    w'.heap[B]? = some (.cells #[va, vl', vm', .int .i64 last'] 74 (0, 0)) ∧ Lists w' D' B vl' vm' us' ms' ∧ us'.length = ms'.length ∧ us'.length ≤ us.length + 9 ∧
    pe w' Fx' bx ts' ∧ RefT w' Fy' byy vB vS ts' ∧ (∀ k, Fy' k → k < w'.heap.size) ∧ Apart w' Fx' Fy' D' B vl' vm' ∧
    (∀ k, Fx' k → Fx k ∨ w.heap.size ≤ k) ∧ (∀ k, Fy' k → Fy k ∨ w.heap.size ≤ k) ∧ (∀ k, D' k → D k ∨ w.heap.size ≤ k) ∧
    (∀ k, vl'.ownBlock = some k → vl.ownBlock = some k ∨ w.heap.size ≤ k) ∧ (∀ k, vm'.ownBlock = some k → vm.ownBlock = some k ∨ w.heap.size ≤ k)
  frame : FrameF (fun k => Fx k ∨ Fy k ∨ k = B ∨ vl.ownBlock = some k ∨ vm.ownBlock = some k) w w'
  le : last' ≤ last + 1

theorem RefT.stay {w w' : World} {F : Nat → Prop} {b : Nat} {vB vS : Value} {ts : List (List Wd)} (h : RefT w F b vB vS ts) (hb : ∀ k, F k → w'.heap[k]? = w.heap[k]?) : RefT w' F b vB vS ts := by
  obtain ⟨vT, h1, h2, h3⟩ := h
  exact ⟨vT, by rw [hb b h2]; exact h1, h2, h3.stay hb (fun _ hk => hk)⟩

section
variable {pe : World → (Nat → Prop) → Nat → List (List Wd) → Prop}

/-- Behind Observe of both. -/
theorem after_obs {w w0 w1 w2 : World} {Fx Fy Fx1 D : Nat → Prop} {B bx byy last : Nat} {va vl vm vB vS : Value} {us : List Value} {ms : List Wd} {ts ts' : List (List Wd)} (hp : ProgOK pe)
    (hB : w.heap[B]? = some (.cells #[va, vl, vm, .int .i64 last] 74 (0, 0))) (hL : Lists w D B vl vm us ms) (hlen : us.length = ms.length)
    (hx : pe w Fx bx ts) (hFy : ∀ k, Fy k → k < w.heap.size) (hA : Apart w Fx Fy D B vl vm) (h0 : Below w.heap.size w w0)
    (hx1 : pe w1 Fx1 bx ts') (hFx1 : ∀ k, Fx1 k → Fx k ∨ w0.heap.size ≤ k) (hf1 : FrameF Fx w0 w1) (hy2 : RefT w2 (Grow Fy w1 w2) byy vB vS ts') (hf2 : FrameF Fy w1 w2) :
    After pe w w2 Fx Fy D B bx byy va vl vm last us vB vS ts' last := by
  have hz0 := h0.size
  have hz1 := hf1.size
  have hz2 := hf2.size
  have hFx := hp.lt hx
  have hFx1l := hp.lt hx1
  have hBz : B < w.heap.size := by
    by_cases hh : B < w.heap.size
    · exact hh
    · rw [Array.getElem?_eq_none (by omega)] at hB; simp at hB
  have hold : ∀ k, k < w.heap.size → ¬ Fx k → ¬ Fy k → w2.heap[k]? = w.heap[k]? := fun k hk h1 h2 => by
    rw [hf2.block k (by omega) h2, hf1.block k (by omega) h1, h0.block k hk]
  refine ⟨⟨Fx1, Grow Fy w1 w2, D, vl, vm, us, ms, ?_, ?_, hlen, by omega, ?_, hy2, ?_, ?_, ?_, ?_, fun k hk => Or.inl hk, fun k hk => Or.inl hk, fun k hk => Or.inl hk⟩, ?_, by omega⟩
  · rw [hold B hBz hA.xB hA.yB]; exact hB
  · refine hL.stay (by omega) (fun k hk => hold k (hL.dlt k hk) (fun h => hA.xD k h hk) (fun h => hA.yD k h hk)) (fun k hk => hold k (hL.ol.lt k hk).2 (hA.xl k hk) (hA.yl k hk)) (fun k hk => hold k (hL.om.lt k hk).2 (hA.xm k hk) (hA.ym k hk))
  · refine hp.stay hx1 hz2 (fun k hk => hf2.block k (hFx1l k hk) (fun h => ?_))
    rcases hFx1 k hk with h1 | h1
    · exact hA.xy k h1 h
    · have := hFy k h; omega
  · intro k hk
    rcases hk with h1 | h1
    · have := hFy k h1; omega
    · exact h1.2
  · refine ⟨fun k hk hy => ?_, fun k hk hd => ?_, fun k hk hd => ?_, fun hk => ?_, fun hk => ?_, fun k hv hk => ?_, fun k hv hk => ?_, fun k hv hk => ?_, fun k hv hk => ?_⟩
    · have := hFx1l k hk
      rcases hy with h1 | h1
      · rcases hFx1 k hk with h2 | h2
        · exact hA.xy k h2 h1
        · have := hFy k h1; omega
      · omega
    · have := hL.dlt k hd
      rcases hFx1 k hk with h2 | h2
      · exact hA.xD k h2 hd
      · omega
    · have := hL.dlt k hd
      rcases hk with h2 | h2
      · exact hA.yD k h2 hd
      · omega
    · rcases hFx1 B hk with h2 | h2
      · exact hA.xB h2
      · omega
    · rcases hk with h2 | h2
      · exact hA.yB h2
      · omega
    · have := (hL.ol.lt k hv).2
      rcases hFx1 k hk with h2 | h2
      · exact hA.xl k hv h2
      · omega
    · have := (hL.ol.lt k hv).2
      rcases hk with h2 | h2
      · exact hA.yl k hv h2
      · omega
    · have := (hL.om.lt k hv).2
      rcases hFx1 k hk with h2 | h2
      · exact hA.xm k hv h2
      · omega
    · have := (hL.om.lt k hv).2
      rcases hk with h2 | h2
      · exact hA.ym k hv h2
      · omega
  · intro k hk
    rcases hFx1 k hk with h2 | h2
    · exact Or.inl h2
    · exact Or.inr (by omega)
  · intro k hk
    rcases hk with h2 | h2
    · exact Or.inl h2
    · exact Or.inr (by omega)
  · refine ⟨(hf2.os.trans hf1.os).trans h0.os, (hf2.tape.trans hf1.tape).trans h0.tape, (hf2.output.trans hf1.output).trans h0.output, by omega, fun k hk hn => ?_⟩
    exact hold k hk (fun h => hn (Or.inl h)) (fun h => hn (Or.inr (Or.inl h)))
/-- Behind Suggest of both, and keep: w3: the world in which keep was called. -/
theorem after_sug {w w3 w4 : World} {Fx Fy D D' : Nat → Prop} {B bx byy last n : Nat} {va vl vm vl' vm' vB vS l : Value} {us us' : List Value} {ms' : List Wd} {xs : List Value} {ts : List (List Wd)} (hp : ProgOK pe)
    (hx : pe w Fx bx ts) (hy : RefT w Fy byy vB vS ts) (hFy : ∀ k, Fy k → k < w.heap.size) (hA : Apart w Fx Fy D B vl vm) (h3 : Below w.heap.size w w3) (hl : w3.ownsRow w.heap.size 9 1 l n xs)
    (hB4 : w4.heap[B]? = some (.cells #[va, vl', vm', .int .i64 (last + 1 : Nat)] 74 (0, 0))) (hL4 : Lists w4 D' B vl' vm' us' ms') (hlen4 : us'.length = ms'.length) (hlen5 : us'.length = us.length + 9)
    (hfr : FrameF (fun k => k = B ∨ vl.ownBlock = some k ∨ vm.ownBlock = some k ∨ l.ownBlock = some k) w3 w4) (hD : ∀ k, D' k → D k ∨ l.ownBlock = some k ∨ w3.heap.size ≤ k)
    (hvl : ∀ k, vl'.ownBlock = some k → vl.ownBlock = some k ∨ w3.heap.size ≤ k) (hvm : ∀ k, vm'.ownBlock = some k → vm.ownBlock = some k ∨ w3.heap.size ≤ k) :
    After pe w w4 Fx Fy D B bx byy va vl vm last us vB vS ts (last + 1) := by
  have hz3 := h3.size
  have hz4 := hfr.size
  have hFx := hp.lt hx
  have hlb : ∀ k, l.ownBlock = some k → w.heap.size ≤ k := fun k hk => (hl.lt k hk).1
  have hold : ∀ k, k < w.heap.size → k ≠ B → vl.ownBlock ≠ some k → vm.ownBlock ≠ some k → w4.heap[k]? = w.heap[k]? := fun k hk h1 h2 h5 => by
    rw [hfr.block k (by omega) (fun h => ?_), h3.block k hk]
    rcases h with h | h | h | h
    · exact h1 h
    · exact h2 h
    · exact h5 h
    · have := hlb k h; omega
  refine ⟨⟨Fx, Fy, D', vl', vm', us', ms', hB4, hL4, hlen4, by omega, ?_, ?_, ?_, ?_, fun k hk => Or.inl hk, fun k hk => Or.inl hk, ?_, ?_, ?_⟩, ?_, Nat.le_refl _⟩
  · refine hp.stay hx (by omega) (fun k hk => hold k (hFx k hk) (fun e => hA.xB (e ▸ hk)) (fun e => hA.xl k e hk) (fun e => hA.xm k e hk))
  · exact hy.stay (fun k hk => hold k (hFy k hk) (fun e => hA.yB (e ▸ hk)) (fun e => hA.yl k e hk) (fun e => hA.ym k e hk))
  · intro k hk; have := hFy k hk; omega
  · have hnew : ∀ k, k < w.heap.size → ¬ w3.heap.size ≤ k := fun k hk h => by omega
    refine ⟨hA.xy, fun k hk hd => ?_, fun k hk hd => ?_, hA.xB, hA.yB, fun k hv hk => ?_, fun k hv hk => ?_, fun k hv hk => ?_, fun k hv hk => ?_⟩
    · rcases hD k hd with h | h | h
      · exact hA.xD k hk h
      · have := hlb k h; have := hFx k hk; omega
      · exact hnew k (hFx k hk) h
    · rcases hD k hd with h | h | h
      · exact hA.yD k hk h
      · have := hlb k h; have := hFy k hk; omega
      · exact hnew k (hFy k hk) h
    · rcases hvl k hv with h | h
      · exact hA.xl k h hk
      · exact hnew k (hFx k hk) h
    · rcases hvl k hv with h | h
      · exact hA.yl k h hk
      · exact hnew k (hFy k hk) h
    · rcases hvm k hv with h | h
      · exact hA.xm k h hk
      · exact hnew k (hFx k hk) h
    · rcases hvm k hv with h | h
      · exact hA.ym k h hk
      · exact hnew k (hFy k hk) h
  · intro k hk
    rcases hD k hk with h | h | h
    · exact Or.inl h
    · exact Or.inr (hlb k h)
    · exact Or.inr (by omega)
  · intro k hk
    rcases hvl k hk with h | h
    · exact Or.inl h
    · exact Or.inr (by omega)
  · intro k hk
    rcases hvm k hk with h | h
    · exact Or.inl h
    · exact Or.inr (by omega)
  · refine ⟨hfr.os.trans h3.os, hfr.tape.trans h3.tape, hfr.output.trans h3.output, by omega, fun k hk hn => ?_⟩
    exact hold k hk (fun e => hn (Or.inr (Or.inr (Or.inl e)))) (fun e => hn (Or.inr (Or.inr (Or.inr (Or.inl e))))) (fun e => hn (Or.inr (Or.inr (Or.inr (Or.inr e)))))

/-- Ahead of a step: all that is known. -/
structure Before (pe : World → (Nat → Prop) → Nat → List (List Wd) → Prop) (w : World) (Fx Fy D : Nat → Prop) (B bx byy : Nat) (va vl vm : Value) (last : Nat) (us : List Value) (ms : List Wd) (vB vS : Value) (ts : List (List Wd)) : Prop where
  heap : w.heap[B]? = some (.cells #[va, vl, vm, .int .i64 last] 74 (0, 0))
  lists : Lists w D B vl vm us ms
  len : us.length = ms.length
  x : pe w Fx bx ts
  y : RefT w Fy byy vB vS ts
  fy : ∀ k, Fy k → k < w.heap.size
  apart : Apart w Fx Fy D B vl vm
  bulk : bulkT ts ≤ 16777216
  lastB : last ≤ 1073741824
  usB : us.length ≤ 17179869184

theorem Before.bz {w : World} {Fx Fy D : Nat → Prop} {B bx byy last : Nat} {va vl vm vB vS : Value} {us : List Value} {ms : List Wd} {ts : List (List Wd)} (h : Before pe w Fx Fy D B bx byy va vl vm last us ms vB vS ts) : B < w.heap.size := by
  by_cases hh : B < w.heap.size
  · exact hh
  · have := h.heap; rw [Array.getElem?_eq_none (by omega)] at this; simp at this

set_option maxHeartbeats 1000000 in
set_option maxRecDepth 100000 in
theorem tells_obs (hp : ProgOK pe) (w : World) (Fx Fy D : Nat → Prop) (B bx byy : Nat) (va vl vm : Value) (last : Nat) (us : List Value) (ms : List Wd) (vB vS : Value) (ts : List (List Wd)) (W N M K : Int) (S T : ByteArray) (L : Value) (made : Bool)
    (hb : Before pe w Fx Fy D B bx byy va vl vm last us ms vB vS ts) (hS : S.size ≤ maxLen) (hLs : ∃ a n c, L = .slice a n c) :
    Calls Tryz.prog 78 #[.pointer (some ⟨B, 0, none⟩), .agg #[.pointer (some ⟨bx, 0, none⟩), .pointer (some ⟨byy, 0, none⟩)], .agg (opV 10 W N M K S T L made)] w fun e w' => e = .returned (.bool true) ∧ After pe w w' Fx Fy D B bx byy va vl vm last us vB vS (obsL ts S.data.toList).2 last := by
  obtain ⟨aL, nL, cL, rfl⟩ := hLs
  unfold opV
  have HB : Hid (Before pe w Fx Fy D B bx byy va vl vm last us ms vB vS ts) := hb
  have HP : Hid (ProgOK pe) := hp
  clear hb hp
  go_enter Tryz.func78, Tryz.ntmps78
  go_wp2_with fail
  have h0 : Below w.heap.size w ((w.alloc (.cells #[.pointer (some ⟨bx, 0, none⟩), .pointer (some ⟨byy, 0, none⟩)] 122)).alloc (.cells #[.int .i64 10, .int .i64 W, .int .i64 N, .int .i64 M, .int .i64 K, .string S, .string T, .slice aL nL cL, .bool made] 77)) := ((Below.refl _ _).alloc (Nat.le_refl _) _).alloc (by simp) _
  have hc1 : ((w.alloc (.cells #[.pointer (some ⟨bx, 0, none⟩), .pointer (some ⟨byy, 0, none⟩)] 122)).alloc (.cells #[.int .i64 10, .int .i64 W, .int .i64 N, .int .i64 M, .int .i64 K, .string S, .string T, .slice aL nL cL, .bool made] 77)).cell? ⟨w.heap.size, 1, none⟩ = some (.pointer (some ⟨byy, 0, none⟩)) := by
    rw [World.cell?_alloc_past _ _ _ (by simp), World.cell?_alloc_at _ _ _ _ rfl]; rfl
  have hc2 : ((w.alloc (.cells #[.pointer (some ⟨bx, 0, none⟩), .pointer (some ⟨byy, 0, none⟩)] 122)).alloc (.cells #[.int .i64 10, .int .i64 W, .int .i64 N, .int .i64 M, .int .i64 K, .string S, .string T, .slice aL nL cL, .bool made] 77)).cell? ⟨w.heap.size + 1, 5, none⟩ = some (.string S) := by
    rw [World.cell?_alloc_at _ _ _ _ (by simp)]; rfl
  have hsz : w.heap.size + 2 ≤ ((w.alloc (.cells #[.pointer (some ⟨bx, 0, none⟩), .pointer (some ⟨byy, 0, none⟩)] 122)).alloc (.cells #[.int .i64 10, .int .i64 W, .int .i64 N, .int .i64 M, .int .i64 K, .string S, .string T, .slice aL nL cL, .bool made] 77)).heap.size := by simp
  generalize ((w.alloc (.cells #[.pointer (some ⟨bx, 0, none⟩), .pointer (some ⟨byy, 0, none⟩)] 122)).alloc (.cells #[.int .i64 10, .int .i64 W, .int .i64 N, .int .i64 M, .int .i64 K, .string S, .string T, .slice aL nL cL, .bool made] 77)) = w0 at *
  have hx0 : pe w0 Fx bx ts := HP.out.stay HB.out.x h0.size (fun k hk => h0.block k (HP.out.lt HB.out.x k hk))
  refine (HP.out.observe w0 Fx bx ts S hx0 HB.out.bulk hS).mono ?_
  rintro e w1 ⟨rfl, Fx1, hx1, hFx1, hf1⟩
  have hz1 := hf1.size
  have hnx : ∀ k, w.heap.size ≤ k → ¬ Fx k := fun k hk h => by have := HP.out.lt HB.out.x k h; omega
  have hc11 : w1.cell? ⟨w.heap.size, 1, none⟩ = some (.pointer (some ⟨byy, 0, none⟩)) := by rw [World.cell?_of_block (w := w0) (hf1.block _ (by simp only; omega) (hnx _ (by simp only; omega)))]; exact hc1
  have hc12 : w1.cell? ⟨w.heap.size + 1, 5, none⟩ = some (.string S) := by rw [World.cell?_of_block (w := w0) (hf1.block _ (by simp only; omega) (hnx _ (by simp only; omega)))]; exact hc2
  have hy1 : RefT w1 Fy byy vB vS ts := HB.out.y.stay (fun k hk => by
    have hk' := HB.out.fy k hk
    rw [hf1.block k (by omega) (fun h => HB.out.apart.xy k h hk), h0.block k hk'])
  clear hc1 hc2 hx0
  have HX1 : Hid (pe w1 Fx1 bx (obsL ts S.data.toList).2) := hx1
  have HH0 : Hid (Below w.heap.size w w0) := h0
  clear hx1 h0
  go_wp2_with fail
  refine (refObserve Fy byy vB vS ts S w1 (fun k hk => by have := HB.out.fy k hk; omega) hy1 hS HB.out.bulk).mono ?_
  rintro e w2 ⟨rfl, hy2, hf2⟩
  have HAf : Hid (After pe w w2 Fx Fy D B bx byy va vl vm last us vB vS (obsL ts S.data.toList).2 last) := after_obs HP.out HB.out.heap HB.out.lists HB.out.len HB.out.x HB.out.fy HB.out.apart HH0.out HX1.out hFx1 hf1 hy2 hf2
  clear hy2 hf2 hf1 hFx1 hy1 hc11 hc12 HX1 hnx
  go_wp2_with fail
  refine (num_any _ _).mono ?_
  rintro e w' ⟨rfl, rfl⟩
  go_wp2
  go_ret
  refine ⟨ret_bool ?_, HAf.out⟩
  simp
end

end Go.Proofs.YtocbogeoffeolaaGreatDoor
