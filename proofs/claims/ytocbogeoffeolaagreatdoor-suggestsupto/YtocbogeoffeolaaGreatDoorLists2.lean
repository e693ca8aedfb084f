/-
  WHAT KEEP DOES TO THE LISTS, step by step, said of blocks alone.
-/
import Derived.Test.YtocbogeoffeolaaGreatDoorLists
import Derived.Test.YtocbogeoffeolaaGreatDoorApp2
namespace Go.Proofs.YtocbogeoffeolaaGreatDoor
open Go.RowKit

/-- The list that is written full just now: all its cells are the mark m; its block is one of the lists'. -/
structure Cur (w : World) (D : Nat → Prop) (l : Value) (n : Nat) (m : Wd) : Prop where
  row : w.ownsRow 0 9 1 l n (List.replicate n (mVal m))
  blk : ∀ k, l.ownBlock = some k → D k

/-- Lists in the block of the current one are its beginnings. -/
def Grp (l : Value) (n : Nat) (m : Wd) (us : List Value) (ms : List Wd) : Prop :=
  ∀ (i : Nat) (u : Value), us[i]? = some u → u.ownBlock ≠ none → u.ownBlock = l.ownBlock → (∃ g n' c, u = .slice (some ⟨g, 0, none⟩) n' c ∧ n' ≤ n ∧ n' ≤ c ∧ c ≤ maxLen) ∧ ∀ mm, ms[i]? = some mm → mm = m

theorem Lists.stay {w w' : World} {D : Nat → Prop} {B : Nat} {vl vm : Value} {us : List Value} {ms : List Wd} (h : Lists w D B vl vm us ms) (hz : w.heap.size ≤ w'.heap.size)
    (hb : ∀ k, D k → w'.heap[k]? = w.heap[k]?) (hl : ∀ k, vl.ownBlock = some k → w'.heap[k]? = w.heap[k]?) (hm : ∀ k, vm.ownBlock = some k → w'.heap[k]? = w.heap[k]?) : Lists w' D B vl vm us ms :=
  ⟨owns_stay h.ol hl, owns_stay h.om hm, h.dl, h.dm, h.dB, fun k hk => Nat.lt_of_lt_of_le (h.dlt k hk) hz, fun i u mm hu hmm => (h.each i u mm hu hmm).stay hb (fun _ hk => hk)⟩

theorem Cur.stay {w w' : World} {D : Nat → Prop} {l : Value} {n : Nat} {m : Wd} (h : Cur w D l n m) (hb : ∀ k, D k → w'.heap[k]? = w.heap[k]?) : Cur w' D l n m :=
  ⟨owns_stay h.row (fun k hk => hb k (h.blk k hk)), h.blk⟩

/-- A prefix of an owned row reads. -/
theorem Rd.prefix {w : World} {base e n g n' c cap : Nat} {xs : List Value} (h : w.ownsRow base e 1 (.slice (some ⟨g, 0, none⟩) n cap) n xs) (hn : n' ≤ n) (hc : n' ≤ c) (hm : c ≤ maxLen) : Rd w (.slice (some ⟨g, 0, none⟩) n' c) (xs.take n') := by
  have hl : xs.length = n := by have := h.1; omega
  refine ⟨some ⟨g, 0, none⟩, c, by simp; omega, by simp; omega, hm, fun j u hj => ?_⟩
  have hj' : xs[j]? = some u := by
    rw [List.getElem?_take] at hj
    split at hj
    · exact hj
    · simp at hj
  exact ⟨g, 0, rfl, by have := h.cells (g := g) rfl j u hj'; rwa [Addr.add_lit] at this⟩

/-- append(l, m): w1 is the world in which m has been laid in a block of its own. -/
theorem lists_more {w w' : World} {D : Nat → Prop} {B n N : Nat} {vl vm l l' : Value} {us : List Value} {ms : List Wd} {m : Wd} {o : Obj}
    (h : Lists w D B vl vm us ms) (hc : Cur w D l n m) (hg : Grp l n m us ms) (hBz : B < w.heap.size) (hlen : us.length = ms.length)
    (ho : w'.ownsRow 0 9 1 l' (n + 1) (List.replicate n (mVal m) ++ [mVal m])) (hgr : (w.alloc o).grownBy w' l.ownBlock)
    (hb : l'.ownBlock = l.ownBlock ∨ (l'.ownBlock = some N ∧ Below (w.alloc o).heap.size (w.alloc o) w')) (hN : N = w.heap.size + 1) :
    ∃ D' : Nat → Prop, Lists w' D' B vl vm us ms ∧ Cur w' D' l' (n + 1) m ∧ Grp l' (n + 1) m us ms ∧ (∀ k, D k → D' k) ∧ (∀ k, D' k → D k ∨ w.heap.size ≤ k) := by
  have hrep : List.replicate n (mVal m) ++ [mVal m] = List.replicate (n + 1) (mVal m) := by rw [List.replicate_succ']
  rw [hrep] at ho
  have hz : w.heap.size + 1 ≤ w'.heap.size := by have := hgr.size; simpa using this
  rcases hb with hb | ⟨hb, hbel⟩
  · -- in its own block
    have hfar : ∀ k, k < w.heap.size → some k ≠ l.ownBlock → w'.heap[k]? = w.heap[k]? := fun k hk hne => by
      rw [hgr.block k (by simp; omega) hne, Below.heap_alloc _ _ _ hk]
    refine ⟨D, ⟨owns_stay h.ol (fun k hk => hfar k (h.ol.lt k hk).2 (fun e => h.dl k hk (hc.blk k e.symm))), owns_stay h.om (fun k hk => hfar k (h.om.lt k hk).2 (fun e => h.dm k hk (hc.blk k e.symm))), h.dl, h.dm, h.dB, fun k hk => by have := h.dlt k hk; omega, ?_⟩, ⟨ho, fun k hk => hc.blk k (by rw [← hb]; exact hk)⟩, ?_, fun _ hk => hk, fun _ hk => Or.inl hk⟩
    · intro i u mm hu hmm
      obtain ⟨n0, hrd, hf⟩ := h.each i u mm hu hmm
      by_cases hub : u.ownBlock = none ∨ u.ownBlock ≠ l.ownBlock
      · refine ⟨n0, ?_, hf⟩
        obtain ⟨a, cap, rfl, h1, h2, hr⟩ := hrd
        refine ⟨a, cap, rfl, h1, h2, fun j v hj => ?_⟩
        obtain ⟨b, off, rfl, hcell⟩ := hr j v hj
        refine ⟨b, off, rfl, ?_⟩
        have hne : some b ≠ l.ownBlock := by
          rcases hub with hub | hub
          · simp [Value.ownBlock] at hub
          · exact hub
        rw [World.cell?_of_block (w := w) (hfar b (h.dlt b (hf b rfl)) hne)]
        exact hcell
      · have hub1 : u.ownBlock ≠ none := fun e => hub (Or.inl e)
        have hub2 : u.ownBlock = l.ownBlock := Decidable.byContradiction fun e => hub (Or.inr e)
        obtain ⟨⟨g, n', c, rfl, hn', hnc, hcm⟩, hm⟩ := hg i u hu hub1 hub2
        have := hm mm hmm
        subst this
        -- the row's own form
        obtain ⟨a', c', rfl, _⟩ := owns_slice ho
        have ha : a' = some ⟨g, 0, none⟩ := by
          rcases ho.2 with ⟨he, _⟩ | ⟨g', cap', cur', he, _⟩
          · simp at he
          · simp only [Value.slice.injEq] at he
            obtain ⟨rfl, _, rfl⟩ := he
            have : some g' = some g := by
              have e1 : (Value.slice (some ⟨g', 0, none⟩) (n + 1) c').ownBlock = some g' := rfl
              have e2 : (Value.slice (some ⟨g, 0, none⟩) n' c).ownBlock = some g := rfl
              rw [← e1, hb, ← hub2, e2]
            simp only [Option.some.injEq] at this
            rw [this]
        subst ha
        refine ⟨n', ?_, hf⟩
        have := Rd.prefix ho (n' := n') (c := c) (by omega) hnc hcm
        rw [List.take_replicate, Nat.min_eq_left (by omega)] at this
        exact this
    · intro i u hu hu1 hu2
      rw [hb] at hu2
      obtain ⟨⟨g, n', c, rfl, hn', hnc, hcm⟩, hm⟩ := hg i u hu hu1 hu2
      exact ⟨⟨g, n', c, rfl, by omega, hnc, hcm⟩, hm⟩
  · -- in a new one
    have hfar : ∀ k, k < w.heap.size → w'.heap[k]? = w.heap[k]? := fun k hk => by
      rw [hbel.block k (by simp; omega), Below.heap_alloc _ _ _ hk]
    refine ⟨fun k => D k ∨ k = N, ⟨owns_stay h.ol (fun k hk => hfar k (h.ol.lt k hk).2), owns_stay h.om (fun k hk => hfar k (h.om.lt k hk).2), ?_, ?_, ?_, ?_, ?_⟩, ⟨ho, fun k hk => by rw [hb] at hk; simp only [Option.some.injEq] at hk; exact Or.inr hk.symm⟩, ?_, fun _ hk => Or.inl hk, ?_⟩
    · intro k hk hd
      rcases hd with hd | hd
      · exact h.dl k hk hd
      · have := (h.ol.lt k hk).2; omega
    · intro k hk hd
      rcases hd with hd | hd
      · exact h.dm k hk hd
      · have := (h.om.lt k hk).2; omega
    · intro hd
      rcases hd with hd | hd
      · exact h.dB hd
      · omega
    · intro k hd
      rcases hd with hd | hd
      · have := h.dlt k hd; omega
      · have := (ho.lt N hb).2; omega
    · intro i u mm hu hmm
      exact (h.each i u mm hu hmm).stay (fun k hk => hfar k (h.dlt k hk)) (fun _ hk => Or.inl hk)
    · intro i u hu hu1 hu2
      exfalso
      rw [hb] at hu2
      have hi : i < us.length := by
        by_cases hi : i < us.length
        · exact hi
        · rw [List.getElem?_eq_none (by omega)] at hu; simp at hu
      obtain ⟨_, _, hf⟩ := h.each i u ms[i] hu (List.getElem?_eq_getElem (by omega))
      have := h.dlt N (hf N hu2)
      omega
    · intro k hd
      rcases hd with hd | hd
      · exact Or.inl hd
      · exact Or.inr (by omega)

/-- A field of hintlaw's World is written: B's block alone turns. -/
theorem lists_field {w : World} {D : Nat → Prop} {B o : Nat} {vl vm v : Value} {us : List Value} {ms : List Wd} {cs : Array Value} (h : Lists w D B vl vm us ms) (hB : w.heap[B]? = some (.cells cs 74 (0, 0))) :
    Lists (w.setCell ⟨B, o, none⟩ v) D B vl vm us ms := by
  have hfar : ∀ k, k ≠ B → (w.setCell ⟨B, o, none⟩ v).heap[k]? = w.heap[k]? := fun k hk => Below.heap_setCell _ _ _ _ hk
  refine h.stay (by simp [World.setCell]) (fun k hk => hfar k (fun e => h.dB (e ▸ hk))) (fun k hk => hfar k (fun e => ?_)) (fun k hk => hfar k (fun e => ?_))
  · subst e; exact blk_ne hB h.ol (by decide) hk
  · subst e; exact blk_ne hB h.om (by decide) hk
theorem cur_field {w : World} {D : Nat → Prop} {B o n : Nat} {l v : Value} {m : Wd} (h : Cur w D l n m) (hB : ¬ D B) : Cur (w.setCell ⟨B, o, none⟩ v) D l n m :=
  h.stay (fun k hk => Below.heap_setCell _ _ _ _ (fun e => hB (by have e' : k = B := e; rw [← e']; exact hk)))

/-- w.lists = append(w.lists, u). -/
theorem lists_push {w w' : World} {D : Nat → Prop} {B : Nat} {vl vl' vm u : Value} {us : List Value} {ms : List Wd} {o : Obj}
    (h : Lists w D B vl vm us ms) (hlen : us.length = ms.length)
    (ho : w'.ownsRow 0 31 1 vl' (us.length + 1) (us ++ [u])) (hgr : (w.alloc o).grownBy w' vl.ownBlock) (hb : vl'.ownBlock = vl.ownBlock ∨ vl'.ownBlock = some (w.heap.size + 1)) :
    Lists w' D B vl' vm (us ++ [u]) ms := by
  have hz : w.heap.size + 1 ≤ w'.heap.size := by have := hgr.size; simpa using this
  have hfar : ∀ k, k < w.heap.size → some k ≠ vl.ownBlock → w'.heap[k]? = w.heap[k]? := fun k hk hne => by
    rw [hgr.block k (by simp; omega) hne, Below.heap_alloc _ _ _ hk]
  refine ⟨by have : (us ++ [u]).length = us.length + 1 := by simp
             rw [this]; exact ho, owns_stay h.om (fun k hk => hfar k (h.om.lt k hk).2 (fun e => ?_)), fun k hk hd => ?_, h.dm, h.dB, fun k hk => by have := h.dlt k hk; omega, fun i v mm hv hmm => ?_⟩
  · rcases owns_ne h.om h.ol (by decide) with h1 | h1
    · rw [h1] at hk; simp at hk
    · exact h1 (by rw [hk, e])
  · rcases hb with hb | hb
    · exact h.dl k (by rw [← hb]; exact hk) hd
    · rw [hb] at hk; simp only [Option.some.injEq] at hk; have := h.dlt k hd; omega
  · have hi : i < ms.length := by
      by_cases hi : i < ms.length
      · exact hi
      · rw [List.getElem?_eq_none (by omega)] at hmm; simp at hmm
    rw [List.getElem?_append_left (by omega)] at hv
    exact (h.each i v mm hv hmm).stay (fun k hk => hfar k (h.dlt k hk) (fun e => h.dl k e.symm hk)) (fun _ hk => hk)

/-- w.marks = append(w.marks, m), the last list being the current one. -/
theorem marks_push {w w' : World} {D : Nat → Prop} {B n : Nat} {vl vm vm' u : Value} {us : List Value} {ms : List Wd} {m : Wd} {o : Obj}
    (h : Lists w D B vl vm us ms) (hlen : us.length = ms.length + 1) (hu : us[ms.length]? = some u) (hc : Cur w D u n m)
    (ho : w'.ownsRow 0 9 1 vm' (ms.length + 1) (strVals ms ++ [mVal m])) (hgr : (w.alloc o).grownBy w' vm.ownBlock) (hb : vm'.ownBlock = vm.ownBlock ∨ vm'.ownBlock = some (w.heap.size + 1)) :
    Lists w' D B vl vm' us (ms ++ [m]) ∧ Cur w' D u n m := by
  have hz : w.heap.size + 1 ≤ w'.heap.size := by have := hgr.size; simpa using this
  have hfar : ∀ k, k < w.heap.size → some k ≠ vm.ownBlock → w'.heap[k]? = w.heap[k]? := fun k hk hne => by
    rw [hgr.block k (by simp; omega) hne, Below.heap_alloc _ _ _ hk]
  have hD : ∀ k, D k → w'.heap[k]? = w.heap[k]? := fun k hk => hfar k (h.dlt k hk) (fun e => h.dm k e.symm hk)
  have hcur := hc.stay hD
  refine ⟨⟨owns_stay h.ol (fun k hk => hfar k (h.ol.lt k hk).2 (fun e => ?_)), ?_, h.dl, fun k hk hd => ?_, h.dB, fun k hk => by have := h.dlt k hk; omega, fun i v mm hv hmm => ?_⟩, hcur⟩
  · rcases owns_ne h.ol h.om (by decide) with h1 | h1
    · rw [h1] at hk; simp at hk
    · exact h1 (by rw [hk, e])
  · have e1 : (ms ++ [m]).length = ms.length + 1 := by simp
    rw [e1, strVals_snoc]; exact ho
  · rcases hb with hb | hb
    · exact h.dm k (by rw [← hb]; exact hk) hd
    · rw [hb] at hk; simp only [Option.some.injEq] at hk; have := h.dlt k hd; omega
  · by_cases hi : i < ms.length
    · rw [List.getElem?_append_left hi] at hmm
      exact (h.each i v mm hv hmm).stay hD (fun _ hk => hk)
    · have hi2 : i = ms.length := by
        by_cases hi2 : i < us.length
        · omega
        · rw [List.getElem?_eq_none (by omega)] at hv; simp at hv
      subst hi2
      rw [hu] at hv
      simp at hmm
      simp only [Option.some.injEq] at hv
      subst hmm; subst hv
      exact ⟨n, Rd.of_owns hcur.row, hcur.blk⟩

end Go.Proofs.YtocbogeoffeolaaGreatDoor
