/-
  WHAT LIES WHERE: footprints. 'F k': block k belongs to the thing. What a call may turn: blocks of its own footprint, and new ones.
-/
import Derived.Test.YtocbogeoffeolaaGreatDoorW7
namespace Go.Proofs.YtocbogeoffeolaaGreatDoor
open Go.RowKit

/-- Nothing outside the footprint has turned; the streams are as they were. -/
structure FrameF (F : Nat → Prop) (w w' : World) : Prop where
  os : w'.os = w.os
  tape : w'.tape = w.tape
  output : w'.output = w.output
  size : w.heap.size ≤ w'.heap.size
  block : ∀ k, k < w.heap.size → ¬ F k → w'.heap[k]? = w.heap[k]?

/-- A footprint, and all blocks that were made between two worlds. -/
def Grow (F : Nat → Prop) (w w' : World) : Nat → Prop := fun k => F k ∨ (w.heap.size ≤ k ∧ k < w'.heap.size)

theorem FrameF.refl (F : Nat → Prop) (w : World) : FrameF F w w := ⟨rfl, rfl, rfl, Nat.le_refl _, fun _ _ _ => rfl⟩
theorem FrameF.of_below {F : Nat → Prop} {w w' : World} (h : Below w.heap.size w w') : FrameF F w w' := ⟨h.os, h.tape, h.output, h.size, fun k hk _ => h.block k hk⟩
theorem FrameF.trans {F G : Nat → Prop} {a b c : World} (h : FrameF F a b) (k : FrameF G b c) (hG : ∀ i, i < a.heap.size → G i → F i) : FrameF F a c :=
  ⟨k.os.trans h.os, k.tape.trans h.tape, k.output.trans h.output, Nat.le_trans h.size k.size, fun i hi hF => by
    rw [k.block i (Nat.lt_of_lt_of_le hi h.size) (fun hg => hF (hG i hi hg)), h.block i hi hF]⟩
theorem FrameF.mono {F G : Nat → Prop} {w w' : World} (h : FrameF F w w') (hF : ∀ k, F k → G k) : FrameF G w w' := ⟨h.os, h.tape, h.output, h.size, fun k hk hn => h.block k hk (fun hf => hn (hF k hf))⟩
theorem FrameF.below {F : Nat → Prop} {w w' : World} (h : FrameF F w w') (hF : ∀ k, ¬ F k) : Below w.heap.size w w' := ⟨h.os, h.tape, h.output, h.size, fun k hk => h.block k hk (hF k)⟩

/-- An owned row lies within one block: it stays while that block stays. -/
theorem owns_stay {w w' : World} {base e n : Nat} {v : Value} {xs : List Value} (h : w.ownsRow base e 1 v n xs) (hb : ∀ k, v.ownBlock = some k → w'.heap[k]? = w.heap[k]?) : w'.ownsRow base e 1 v n xs := by
  obtain ⟨h1, h2⟩ := h
  refine ⟨h1, ?_⟩
  rcases h2 with h2 | ⟨g, cap, cur, rfl, hbg, hg, r⟩
  · exact Or.inl h2
  · exact Or.inr ⟨g, cap, cur, rfl, hbg, by rw [hb g rfl]; exact hg, r⟩

/-- The texts of the document's engine, with their footprint. -/
def TextsO (w : World) (F : Nat → Prop) (vT : Value) (ts : List (List Wd)) : Prop :=
  ∃ vs : List Value, vs.length = ts.length ∧ w.ownsRow 0 31 1 vT ts.length vs ∧ (∀ k, vT.ownBlock = some k → F k) ∧
    ∀ i (h : i < ts.length), ∃ u, vs[i]? = some u ∧ w.ownsRow 0 9 1 u ts[i].length (strVals ts[i]) ∧ (∀ k, u.ownBlock = some k → F k)

theorem TextsO.reads {w : World} {F : Nat → Prop} {vT : Value} {ts : List (List Wd)} (h : TextsO w F vT ts) : TextsR w vT ts := by
  obtain ⟨vs, h1, h2, _, h4⟩ := h
  refine ⟨vs, h1, Rd.of_owns h2, fun i hi => ?_⟩
  obtain ⟨u, hu, ho, _⟩ := h4 i hi
  exact ⟨u, hu, Rd.of_owns ho⟩

theorem TextsO.stay {w w' : World} {F G : Nat → Prop} {vT : Value} {ts : List (List Wd)} (h : TextsO w F vT ts) (hb : ∀ k, F k → w'.heap[k]? = w.heap[k]?) (hG : ∀ k, F k → G k) : TextsO w' G vT ts := by
  obtain ⟨vs, h1, h2, h3, h4⟩ := h
  refine ⟨vs, h1, owns_stay h2 (fun k hk => hb k (h3 k hk)), fun k hk => hG k (h3 k hk), fun i hi => ?_⟩
  obtain ⟨u, hu, ho, hf⟩ := h4 i hi
  exact ⟨u, hu, owns_stay ho (fun k hk => hb k (hf k hk)), fun k hk => hG k (hf k hk)⟩

/-- The document's engine, of which the texts are looked at: the two other fields are as they are. -/
def RefT (w : World) (F : Nat → Prop) (b : Nat) (vB vS : Value) (ts : List (List Wd)) : Prop :=
  ∃ vT, w.heap[b]? = some (.cells #[vB, vS, vT] 120 (0, 0)) ∧ F b ∧ TextsO w F vT ts

theorem cell_of_heap {w : World} {b : Nat} {cs : Array Value} {t : TypeId} {fz : Nat × Nat} (h : w.heap[b]? = some (.cells cs t fz)) (o : Nat) : w.cell? ⟨b, o, none⟩ = cs[o]? := by
  simp [World.cell?, h]
theorem frozen_of_heap {w : World} {b : Nat} {cs : Array Value} {t : TypeId} (h : w.heap[b]? = some (.cells cs t (0, 0))) (o : Nat) : w.frozen? ⟨b, o, none⟩ = false := by
  simp [World.frozen?, h]
theorem heap_set {w : World} {b : Nat} {cs : Array Value} {t : TypeId} {fz : Nat × Nat} (h : w.heap[b]? = some (.cells cs t fz)) (o : Nat) (v : Value) : (w.setCell ⟨b, o, none⟩ v).heap[b]? = some (.cells (cs.setIfInBounds o v) t fz) := by
  simp [World.setCell, Array.getElem?_modify, h]

/-- A struct's block is no row of elements of another type. -/
theorem blk_ne {w : World} {b : Nat} {cs : Array Value} {t : TypeId} {fz : Nat × Nat} (h : w.heap[b]? = some (.cells cs t fz)) {base e n : Nat} {v : Value} {xs : List Value} (ho : w.ownsRow base e 1 v n xs) (hne : t ≠ e) : v.ownBlock ≠ some b := by
  rcases ho.2 with ⟨rfl, _⟩ | ⟨g, cap, cur, rfl, _, hg, _⟩
  · simp [Value.ownBlock]
  · intro he
    simp only [Value.ownBlock, Option.some.injEq] at he
    rw [he, h] at hg
    simp only [Option.some.injEq, Obj.cells.injEq] at hg
    exact hne hg.2.1

/-- append, as one step of a region that draws. -/
theorem step_append_full {P : Program} {ops : Array Oper} {o : Oper} {a : Act} {w : World} {K : Act → World → Prop} {Q : Exit → Act → World → Prop} {E : Prop}
    (hgd : o.guard = none) (s x : Operand) (t : TypeId) (ho : o.op = .call { callee := .builtin .append, args := #[s, x], argTypes := #[t, t] })
    (base : Nat) (e : TypeId) (i : TypeInfo) (z : Value) (bytes : Nat) (ht : P.underlying t = some (.slice e)) (hi : P.info? e = some i) (hz : i.zero = some z)
    (hsize : i.size = 1) (hby : i.bytes = bytes) (hzs : z.cells.size = 1)
    (v : Value) (n : Nat) (xs : List Value) (hs : a.eval s = v) (hown : w.ownsRow base e 1 v n xs)
    (y : Value) (news : List Value) (hx : a.eval x = y) (hy : Rd w y news) (h1 : ∀ u ∈ news, u.oneCell' = true)
    (hbytes : (n + news.length) * bytes ≤ 140737488355328) (h63 : n + news.length ≤ maxLen) (hbase : base ≤ w.heap.size)
    (h : ∀ v' w', w'.ownsRow base e 1 v' (n + news.length) (xs ++ news) → w.grownBy w' v.ownBlock → (v'.ownBlock = v.ownBlock ∨ v'.ownBlock = some w.heap.size) → K (a.put o.dst v') w') :
    if Region.wanted o (yielded ops a.tmps) = true then Oper.wp P o a w K Q else E := by
  have hw : Region.wanted o (yielded ops a.tmps) = true := by simp [Region.wanted, hgd]
  rw [if_pos hw]
  obtain ⟨v', w', hr, h2, h3, h4⟩ := run_append_full (P := P) w base t o.type e i z bytes ht hi hz hsize hby hzs v n xs hown y news hy h1 hbytes h63 hbase
  unfold Oper.wp execOp
  simp only [ho, resolve, invoke, builtin, Sem.run_bind, Sem.run_pure, Result.andThen_ok, List.map_toArray, List.map_cons, List.map_nil, hs, hx, hr]
  exact h v' w' h2 h3 h4

theorem Tryz.infoLs : (Tryz.prog.info? 31).map (fun i => (i.zero, i.size, i.bytes)) = some (some (.slice none 0 0), 1, 24) := by kernel_rfl

end Go.Proofs.YtocbogeoffeolaaGreatDoor
