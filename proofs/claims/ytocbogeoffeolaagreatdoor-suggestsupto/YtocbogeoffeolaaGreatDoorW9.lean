/-
  WALKS: hintlaw: keep: a list that came out is written full, and kept.
-/
import Derived.Test.YtocbogeoffeolaaGreatDoorLists2
namespace Go.Proofs.YtocbogeoffeolaaGreatDoor
open Go.RowKit

theorem FrameF.grown {G : Nat → Prop} {w wr w' : World} {o : Obj} {row : Option Nat} (h : FrameF G w wr) (hg : (wr.alloc o).grownBy w' row) (hr : ∀ k, row = some k → G k ∨ w.heap.size ≤ k) : FrameF G w w' := by
  refine ⟨hg.os.trans h.os, hg.tape.trans h.tape, hg.output.trans h.output, ?_, fun k hk hn => ?_⟩
  · have := hg.size; have := h.size; simp at *; omega
  · have hz := h.size
    rw [hg.block k (by simp; omega) (fun e => ?_), Below.heap_alloc _ _ _ (by omega), h.block k hk hn]
    rcases hr k e.symm with h1 | h1
    · exact hn h1
    · omega
theorem FrameF.setCell {G : Nat → Prop} {w wr : World} {B o : Nat} {v : Value} (h : FrameF G w wr) (hG : G B) : FrameF G w (wr.setCell ⟨B, o, none⟩ v) := by
  refine ⟨h.os, h.tape, h.output, by simp [World.setCell]; exact h.size, fun k hk hn => ?_⟩
  rw [Below.heap_setCell _ _ _ _ (fun e => hn (by have e' : k = B := e; rw [e']; exact hG))]
  exact h.block k hk hn
theorem blk_grown {w w' : World} {B : Nat} {o : Obj} {cs : Array Value} {t : TypeId} {fz : Nat × Nat} {row : Option Nat} (h : w.heap[B]? = some (.cells cs t fz)) (hg : (w.alloc o).grownBy w' row) (hne : row ≠ some B) : w'.heap[B]? = some (.cells cs t fz) := by
  have hB : B < w.heap.size := by
    by_cases hB : B < w.heap.size
    · exact hB
    · rw [Array.getElem?_eq_none (by omega)] at h; simp at h
  rw [hg.block B (by simp; omega) (fun e => hne e.symm), Below.heap_alloc _ _ _ hB]; exact h

theorem fill_step (xs : List Value) (v : Value) (k : Nat) (h : k < xs.length) : (List.replicate k v ++ xs.drop k).set k v = List.replicate (k + 1) v ++ xs.drop (k + 1) := by
  have e : xs.drop k = xs[k] :: xs.drop (k + 1) := List.drop_eq_getElem_cons h
  rw [e, List.set_append_right _ _ (by simp), List.replicate_succ', List.append_assoc, List.length_replicate, Nat.sub_self]
  rfl

theorem Tryz.infoStr : (Tryz.prog.info? 9).map (fun i => (i.zero, i.size, i.bytes)) = some (some (.string ⟨#[]⟩), 1, 16) := by kernel_rfl

/-- How things stand while a list is kept: w0: the world in which keep began; G: what keep may turn of it; D0: in which old blocks lists may lie. -/
structure KS (w0 : World) (G D0 Pl Pm : Nat → Prop) (B : Nat) (va : Value) (lastv : Int) (m : Wd) (w : World) (D : Nat → Prop) (vl vm l : Value) (n : Nat) (us : List Value) (ms : List Wd) : Prop where
  heap : w.heap[B]? = some (.cells #[va, vl, vm, .int .i64 lastv] 74 (0, 0))
  lists : Lists w D B vl vm us ms
  len : us.length = ms.length
  cur : Cur w D l n m
  grp : Grp l n m us ms
  frame : FrameF G w0 w
  gB : G B
  gl : ∀ k, vl.ownBlock = some k → Pl k ∨ w0.heap.size ≤ k
  gm : ∀ k, vm.ownBlock = some k → Pm k ∨ w0.heap.size ≤ k
  gx : ∀ k, l.ownBlock = some k → G k ∨ w0.heap.size ≤ k
  pl : ∀ k, Pl k → G k
  pm : ∀ k, Pm k → G k
  dd : ∀ k, D k → D0 k ∨ w0.heap.size ≤ k

theorem grp_push {w : World} {base e n : Nat} {l : Value} {m : Wd} {us : List Value} {ms : List Wd} {xs : List Value} (h : Grp l n m us ms) (hlen : us.length = ms.length) (ho : w.ownsRow base e 1 l n xs) : Grp l n m (us ++ [l]) (ms ++ [m]) := by
  intro i u hu hu1 hu2
  by_cases hi : i < us.length
  · rw [List.getElem?_append_left hi] at hu
    obtain ⟨h1, h2⟩ := h i u hu hu1 hu2
    exact ⟨h1, fun mm hmm => by rw [List.getElem?_append_left (by omega)] at hmm; exact h2 mm hmm⟩
  · have hi2 : i = us.length := by
      by_cases hi2 : i < (us ++ [l]).length
      · simp at hi2; omega
      · rw [List.getElem?_eq_none (by omega)] at hu; simp at hu
    subst hi2
    simp at hu
    subst hu
    constructor
    · rcases ho.2 with ⟨rfl, _⟩ | ⟨g, cap, cur, rfl, _, _, hn, hcm, _⟩
      · exact absurd rfl hu1
      · exact ⟨g, n, cap, rfl, Nat.le_refl _, hn, hcm⟩
    · intro mm hmm
      rw [hlen] at hmm
      simp at hmm
      exact hmm.symm

section
variable {w0 w : World} {G D0 Pl Pm D : Nat → Prop} {B n : Nat} {va vl vm l : Value} {lastv : Int} {m : Wd} {us : List Value} {ms : List Wd}

/-- Behind the append onto the lists. -/
theorem KS.mid (h : KS w0 G D0 Pl Pm B va lastv m w D vl vm l n us ms) {w3 : World} {vl1 : Value} {o : Obj} (ho3 : w3.ownsRow 0 31 1 vl1 (us.length + 1) (us ++ [l])) (hg3 : (w.alloc o).grownBy w3 vl.ownBlock)
    (hk3 : vl1.ownBlock = vl.ownBlock ∨ vl1.ownBlock = some (w.heap.size + 1)) :
    w3.heap[B]? = some (.cells #[va, vl, vm, .int .i64 lastv] 74 (0, 0)) ∧ Lists (w3.setCell ⟨B, 1, none⟩ vl1) D B vl1 vm (us ++ [l]) ms ∧ Cur (w3.setCell ⟨B, 1, none⟩ vl1) D l n m ∧ FrameF G w0 (w3.setCell ⟨B, 1, none⟩ vl1) := by
  have hB3 := blk_grown h.heap hg3 (blk_ne h.heap h.lists.ol (by decide))
  have hL := lists_push h.lists h.len ho3 hg3 hk3
  have hcur : Cur w3 D l n m := h.cur.stay (fun k hk => by
    rw [hg3.block k (by have := h.lists.dlt k hk; simp; omega) (fun e => h.lists.dl k e.symm hk), Below.heap_alloc _ _ _ (h.lists.dlt k hk)])
  have hfr : FrameF G w0 w3 := h.frame.grown hg3 (fun k hk => by
    rcases h.gl k hk with h1 | h1
    · exact Or.inl (h.pl k h1)
    · exact Or.inr h1)
  exact ⟨hB3, lists_field hL hB3, cur_field hcur h.lists.dB, hfr.setCell h.gB⟩

/-- Behind both. -/
theorem KS.push (h : KS w0 G D0 Pl Pm B va lastv m w D vl vm l n us ms) {w3 w5 : World} {vl1 vm1 : Value} {o o' : Obj} (ho3 : w3.ownsRow 0 31 1 vl1 (us.length + 1) (us ++ [l])) (hg3 : (w.alloc o).grownBy w3 vl.ownBlock)
    (hk3 : vl1.ownBlock = vl.ownBlock ∨ vl1.ownBlock = some (w.heap.size + 1))
    (ho5 : w5.ownsRow 0 9 1 vm1 (ms.length + 1) (strVals ms ++ [mVal m])) (hg5 : ((w3.setCell ⟨B, 1, none⟩ vl1).alloc o').grownBy w5 vm.ownBlock) (hk5 : vm1.ownBlock = vm.ownBlock ∨ vm1.ownBlock = some (w3.heap.size + 1)) :
    w5.heap[B]? = some (.cells #[va, vl1, vm, .int .i64 lastv] 74 (0, 0)) ∧ KS w0 G D0 Pl Pm B va lastv m (w5.setCell ⟨B, 2, none⟩ vm1) D vl1 vm1 l n (us ++ [l]) (ms ++ [m]) := by
  obtain ⟨hB3, hL4, hC4, hfr4⟩ := h.mid ho3 hg3 hk3
  have hsz : (w3.setCell ⟨B, 1, none⟩ vl1).heap.size = w3.heap.size := by simp [World.setCell]
  have hz0 := h.frame.size
  have hB4 : (w3.setCell ⟨B, 1, none⟩ vl1).heap[B]? = some (.cells #[va, vl1, vm, .int .i64 lastv] 74 (0, 0)) := by rw [heap_set hB3]; rfl
  have hB5 := blk_grown hB4 hg5 (blk_ne hB4 hL4.om (by decide))
  obtain ⟨hL5, hC5⟩ := marks_push hL4 (by simp [h.len]) (by rw [← h.len]; simp) hC4 ho5 hg5 (by rw [hsz]; exact hk5)
  have hfr5 : FrameF G w0 w5 := hfr4.grown hg5 (fun k hk => by
    rcases h.gm k hk with h1 | h1
    · exact Or.inl (h.pm k h1)
    · exact Or.inr h1)
  have hz3 : w.heap.size + 1 ≤ w3.heap.size := by have := hg3.size; simpa using this
  refine ⟨hB5, ?_, lists_field hL5 hB5, by simp [h.len], cur_field hC5 h.lists.dB, grp_push h.grp h.len h.cur.row, hfr5.setCell h.gB, h.gB, ?_, ?_, h.gx, h.pl, h.pm, h.dd⟩
  · rw [heap_set hB5]; rfl
  · intro k hk
    rcases hk3 with h1 | h1
    · exact h.gl k (by rw [← h1]; exact hk)
    · rw [h1] at hk; simp only [Option.some.injEq] at hk; exact Or.inr (by omega)
  · intro k hk
    rcases hk5 with h1 | h1
    · exact h.gm k (by rw [← h1]; exact hk)
    · rw [h1] at hk; simp only [Option.some.injEq] at hk; exact Or.inr (by omega)

/-- Behind append(l, m). -/
theorem KS.more (h : KS w0 G D0 Pl Pm B va lastv m w D vl vm l n us ms) {w' : World} {l' : Value} {o : Obj} (ho : w'.ownsRow 0 9 1 l' (n + 1) (List.replicate n (mVal m) ++ [mVal m])) (hgr : (w.alloc o).grownBy w' l.ownBlock)
    (hb : l'.ownBlock = l.ownBlock ∨ (l'.ownBlock = some (w.heap.size + 1) ∧ Below (w.heap.size + 1) (w.alloc o) w')) :
    ∃ D' : Nat → Prop, KS w0 G D0 Pl Pm B va lastv m w' D' vl vm l' (n + 1) us ms := by
  have hBz : B < w.heap.size := by
    by_cases hB : B < w.heap.size
    · exact hB
    · have := h.heap; rw [Array.getElem?_eq_none (by omega)] at this; simp at this
  have hz0 := h.frame.size
  have hsz : (w.alloc o).heap.size = w.heap.size + 1 := by simp
  obtain ⟨D', hL, hC, hG, hD1, hD2⟩ := lists_more h.lists h.cur h.grp hBz h.len ho hgr (by rw [hsz]; exact hb) rfl
  refine ⟨D', blk_grown h.heap hgr (blk_ne h.heap h.cur.row (by decide)), hL, h.len, hC, hG, h.frame.grown hgr h.gx, h.gB, h.gl, h.gm, ?_, h.pl, h.pm, ?_⟩
  · intro k hk
    rcases hb with h1 | ⟨h1, _⟩
    · exact h.gx k (by rw [← h1]; exact hk)
    · rw [h1] at hk; simp only [Option.some.injEq] at hk; exact Or.inr (by omega)
  · intro k hk
    rcases hD2 k hk with h1 | h1
    · exact h.dd k h1
    · exact Or.inr (by omega)
end

set_option maxHeartbeats 2000000 in
set_option maxRecDepth 100000 in
theorem keep_any (B : Nat) (D : Nat → Prop) (va vl vm l : Value) (us : List Value) (ms : List Wd) (last n : Nat) (xs : List Value) (w : World)
    (hB : w.heap[B]? = some (.cells #[va, vl, vm, .int .i64 last] 74 (0, 0))) (hL : Lists w D B vl vm us ms) (hlen : us.length = ms.length)
    (hl : w.ownsRow 0 9 1 l n xs) (hlD : ∀ k, l.ownBlock = some k → ¬ D k) (hlm : ∀ k, l.ownBlock = some k → vm.ownBlock ≠ some k)
    (hb1 : last ≤ 1073741824) (hb2 : us.length ≤ 17179869184) (hb3 : n ≤ 1000) :
    Calls Tryz.prog 113 #[.pointer (some ⟨B, 0, none⟩), l] w fun e w' => e = .returned (.tuple #[]) ∧ ∃ (D' : Nat → Prop) (vl' vm' : Value) (us' : List Value) (ms' : List Wd),
      w'.heap[B]? = some (.cells #[va, vl', vm', .int .i64 (last + 1 : Nat)] 74 (0, 0)) ∧ Lists w' D' B vl' vm' us' ms' ∧ us'.length = ms'.length ∧ us'.length = us.length + 9 ∧
      FrameF (fun k => k = B ∨ vl.ownBlock = some k ∨ vm.ownBlock = some k ∨ l.ownBlock = some k) w w' ∧ (∀ k, D' k → D k ∨ l.ownBlock = some k ∨ w.heap.size ≤ k) ∧
      (∀ k, vl'.ownBlock = some k → vl.ownBlock = some k ∨ w.heap.size ≤ k) ∧ (∀ k, vm'.ownBlock = some k → vm.ownBlock = some k ∨ w.heap.size ≤ k) := by
  obtain ⟨i0, hi, hz0, hz1, hz2⟩ := info_parts Tryz.infoStr
  obtain ⟨i8, hi8, hy0, hy1, hy2⟩ := info_parts Tryz.infoLs
  have h3 : w.cell? ⟨B, 3, none⟩ = some (.int .i64 last) := by rw [cell_of_heap hB]; rfl
  have hf3 : w.frozen? ⟨B, 3, none⟩ = false := frozen_of_heap hB 3
  obtain ⟨al, cl, rfl, hcl⟩ := owns_slice hl
  have hBl : (Value.slice al n cl).ownBlock ≠ some B := blk_ne hB hl (by decide)
  have HB : Hid (w.heap[B]? = some (.cells #[va, vl, vm, .int .i64 last] 74 (0, 0))) := hB
  clear hB
  go_enter Tryz.func113, Tryz.ntmps113
  go_wp2_with fail
  obtain ⟨G, hG⟩ : ∃ G : Nat → Prop, G = fun k => k = B ∨ vl.ownBlock = some k ∨ vm.ownBlock = some k ∨ (Value.slice al n cl).ownBlock = some k := ⟨_, rfl⟩
  have hGB : G B := by rw [hG]; exact Or.inl rfl
  have hGl : ∀ k, vl.ownBlock = some k → G k := fun k hk => by rw [hG]; exact Or.inr (Or.inl hk)
  have hGm : ∀ k, vm.ownBlock = some k → G k := fun k hk => by rw [hG]; exact Or.inr (Or.inr (Or.inl hk))
  have hGx : ∀ k, (Value.slice al n cl).ownBlock = some k → G k := fun k hk => by rw [hG]; exact Or.inr (Or.inr (Or.inr hk))
  have HG : Hid (G = fun k => k = B ∨ vl.ownBlock = some k ∨ vm.ownBlock = some k ∨ (Value.slice al n cl).ownBlock = some k) := hG
  clear hG
  have hB1 : (w.setCell ⟨B, 3, none⟩ (.int .i64 ((last : Int) + 1))).heap[B]? = some (.cells #[va, vl, vm, .int .i64 ((last : Int) + 1)] 74 (0, 0)) := by rw [heap_set HB.out]; rfl
  have hL1 := lists_field (o := 3) (v := .int .i64 ((last : Int) + 1)) hL HB.out
  have hl1 : (w.setCell ⟨B, 3, none⟩ (.int .i64 ((last : Int) + 1))).ownsRow 0 9 1 (.slice al n cl) n xs := owns_set_other hl _ _ hBl
  have hfr1 : FrameF G w (w.setCell ⟨B, 3, none⟩ (.int .i64 ((last : Int) + 1))) := (FrameF.refl G w).setCell hGB
  generalize w.setCell ⟨B, 3, none⟩ (.int .i64 ((last : Int) + 1)) = W1 at *
  clear hL hl HB h3 hf3
  have h31 : W1.cell? ⟨B, 3, none⟩ = some (.int .i64 ((last : Int) + 1)) := by rw [cell_of_heap hB1]; rfl
  go_loop [4, 5] (fun v i => ∃ (k : Nat) (s : ByteArray), k ≤ last + 1 ∧ i = .int .i64 k ∧ v = .string s ∧ s.size = 4 + k) (fun _ i => last + 1 - (intOf i).toNat)
  case atStart => exact ⟨0, _, Nat.zero_le _, rfl, rfl, rfl⟩
  case round =>
    obtain ⟨k, s, hk, rfl, rfl, hsz⟩ := hrel
    have HS : Hid (s.size = 4 + k) := hsz
    have hsl : s.size ≤ 4294967296 := by omega
    clear hsz
    by_cases hlt : k < last + 1
    · go_wp2
      go_round
      case rel =>
        refine ⟨k + 1, _, by omega, by go_num, rfl, ?_⟩
        have := HS.out
        go_light
        rw [ByteArray.size_append]
        show s.size + 1 = _
        omega
      case measure => simp [intOf]; omega
    · have hkl : k = last + 1 := by omega
      subst hkl
      clear hlt hk HS
      have hsm : s = ⟨s.data.toList.toArray⟩ := by apply ByteArray.ext; simp
      rw [hsm]
      generalize s.data.toList = m at *
      clear hsm hsl
      have hxl : xs.length = n := by have := hl1.1; omega
      go_wp2_with fail
      go_loopw [6] (fun i wr => ∃ k : Nat, k ≤ n ∧ i = .int .i64 k ∧ wr.ownsRow 0 9 1 (.slice al n cl) n (List.replicate k (mVal m) ++ xs.drop k) ∧ FrameF (fun q => (Value.slice al n cl).ownBlock = some q) W1 wr) (fun i _ => n - (intOf i).toNat)
      case atStart => exact ⟨0, Nat.zero_le _, rfl, by simpa using hl1, FrameF.refl _ _⟩
      case round =>
        obtain ⟨k, hk, rfl, hlr, hfr⟩ := hrel
        by_cases hlt : k < n
        · obtain ⟨bl, ol, rfl, hcl1⟩ := owns_cell hlr k xs[k] (by rw [List.getElem?_append_right (by simp)]; simp)
          have hol : ol = 0 := by
            rcases hlr.2 with ⟨he, _⟩ | ⟨g', cap', cur', he, _⟩
            · simp at he
            · simp only [Value.slice.injEq, Option.some.injEq, Addr.mk.injEq] at he; exact he.1.2.1
          subst hol
          rw [Nat.zero_add] at hcl1
          have hfz := owns_frozen hlr k
          have hl2 := owns_set hlr k (mVal m) hlt
          have HX : Hid ((List.replicate k (mVal m) ++ xs.drop k).set k (mVal m) = List.replicate (k + 1) (mVal m) ++ xs.drop (k + 1)) := by
            exact fill_step xs (mVal m) k (by omega)
          rw [HX.out] at hl2
          have hf2 : FrameF (fun q => (Value.slice (some ⟨bl, 0, none⟩) n cl).ownBlock = some q) W1 (wr.setCell ⟨bl, k, none⟩ (mVal m)) := hfr.setCell rfl
          go_wp2
          go_roundw
          case rel => exact ⟨k + 1, by omega, by go_num, hl2, hf2⟩
          case measure => simp [intOf]; omega
        · have hkn : k = n := by omega
          subst hkn
          have hlx : wr.ownsRow 0 9 1 (.slice al k cl) k (List.replicate k (mVal m)) := by
            have e : List.replicate k (mVal m) ++ xs.drop k = List.replicate k (mVal m) := by rw [List.drop_eq_nil_of_le (by omega)]; simp
            rw [e] at hlr; exact hlr
          -- the lists and B's block are as they were
          have hL2 : Lists wr D B vl vm us ms := hL1.stay hfr.size (fun q hq => hfr.block q (hL1.dlt q hq) (fun e => hlD q e hq))
            (fun q hq => hfr.block q (hL1.ol.lt q hq).2 (fun e => by
              rcases owns_ne hl1 hL1.ol (by decide) with h1 | h1
              · rw [h1] at e; simp at e
              · exact h1 (by rw [e, hq])))
            (fun q hq => hfr.block q (hL1.om.lt q hq).2 (fun e => hlm q e hq))
          have hBz1 : B < W1.heap.size := by
            by_cases hB : B < W1.heap.size
            · exact hB
            · rw [Array.getElem?_eq_none (by omega)] at hB1; simp at hB1
          have hB2 : wr.heap[B]? = some (.cells #[va, vl, vm, .int .i64 ((last : Int) + 1)] 74 (0, 0)) := by rw [hfr.block B hBz1 hBl]; exact hB1
          have hfr2 : FrameF G w wr := hfr1.trans hfr (fun q _ hq => hGx q hq)
          obtain ⟨D1, hL3, hC3, hD1, hD2⟩ : ∃ D1 : Nat → Prop, Lists wr D1 B vl vm us ms ∧ Cur wr D1 (.slice al k cl) k m ∧ (∀ q, D1 q → D q ∨ (Value.slice al k cl).ownBlock = some q) ∧ Grp (.slice al k cl) k m us ms := by
            refine ⟨fun q => D q ∨ (Value.slice al k cl).ownBlock = some q, ⟨hL2.ol, hL2.om, ?_, ?_, ?_, ?_, ?_⟩, ⟨hlx, fun q hq => Or.inr hq⟩, fun q hq => hq, ?_⟩
            · intro q hq hd
              rcases hd with hd | hd
              · exact hL2.dl q hq hd
              · rcases owns_ne hlx hL2.ol (by decide) with h1 | h1
                · rw [h1] at hd; simp at hd
                · exact h1 (by rw [hd, hq])
            · intro q hq hd
              rcases hd with hd | hd
              · exact hL2.dm q hq hd
              · exact hlm q hd hq
            · intro hd
              rcases hd with hd | hd
              · exact hL2.dB hd
              · exact hBl hd
            · intro q hd
              rcases hd with hd | hd
              · exact hL2.dlt q hd
              · exact (hlx.lt q hd).2
            · intro i u mm hu hmm
              exact (hL2.each i u mm hu hmm).stay (fun _ _ => rfl) (fun _ hk => Or.inl hk)
            · intro i u hu hu1 hu2
              exfalso
              have hi' : i < us.length := by
                by_cases hi' : i < us.length
                · exact hi'
                · rw [List.getElem?_eq_none (by omega)] at hu; simp at hu
              obtain ⟨_, _, hf⟩ := hL2.each i u ms[i] hu (List.getElem?_eq_getElem (by omega))
              cases hub : u.ownBlock with
              | none => exact hu1 hub
              | some q => exact hlD q (by rw [← hu2, hub]) (hf q hub)
          have HK : Hid (KS w G (fun q => D q ∨ (Value.slice al k cl).ownBlock = some q) (fun q => vl.ownBlock = some q) (fun q => vm.ownBlock = some q) B va ((last : Int) + 1) m wr D1 vl vm (.slice al k cl) k us ms) :=
            ⟨hB2, hL3, hlen, hC3, hD2, hfr2, hGB, fun q hq => Or.inl hq, fun q hq => Or.inl hq, fun q hq => Or.inl (hGx q hq), hGl, hGm, fun q hq => Or.inl (hD1 q hq)⟩
          clear hL2 hL1 hl1 hlr hfr hfr1 hB1 h31 hlx hlD hlm hBl hL3 hC3 hD1 hD2 hfr2 hGl hGm hGx hlen
          have hc1 : wr.cell? ⟨B, 1, none⟩ = some vl := by rw [cell_of_heap hB2]; rfl
          clear hB2
          go_wp2_with (at_builtin; go_must (refine wpList_append_full _ rfl _ _ 72 rfl 0 31 i8 (.slice none 0 0) 24 Tryz.underlying72 hi8 hy0 hy1 hy2 rfl _ _ _ rfl (HK.out.lists.ol.alloc _) _ [.slice al k cl] rfl ?a0 ?a00 ?a1 ?a2 ?a3 ?_))
          case a0 => go_light; exact Rd.one (cell_new' rfl)
          case a00 => intro u hu; simp at hu; subst hu; rfl
          case a1 => simp; omega
          case a2 => simp [maxLen]; omega
          case a3 => exact Nat.zero_le _
          intro vl1 w3 ho3 hg3 hk3
          obtain ⟨al1, cl1, rfl, hcl1⟩ := owns_slice ho3
          have hmid := HK.out.mid ho3 hg3 hk3
          have hc31 : w3.cell? ⟨B, 1, none⟩ = some vl := by rw [cell_of_heap hmid.1]; rfl
          have hf31 : w3.frozen? ⟨B, 1, none⟩ = false := frozen_of_heap hmid.1 1
          have hc32 : w3.cell? ⟨B, 2, none⟩ = some vm := by rw [cell_of_heap hmid.1]; rfl
          have hom := hmid.2.1.om
          have hlen2 : ms.length ≤ 17179869184 := by have := HK.out.len; omega
          clear hmid hc1
          go_wp2_with (at_builtin; go_must (refine wpList_append_full _ rfl _ _ 31 rfl 0 9 i0 (.string ⟨#[]⟩) 16 Tryz.underlying31 hi hz0 hz1 hz2 rfl _ _ _ rfl (hom.alloc _) _ [mVal m] rfl ?b0 ?b00 ?b1 ?b2 ?b3 ?_))
          case b0 => go_light; exact Rd.one (cell_new' (by simp))
          case b00 => intro u hu; simp at hu; subst hu; rfl
          case b1 => simp; omega
          case b2 => simp [maxLen]; omega
          case b3 => exact Nat.zero_le _
          intro vm1 w5 ho5 hg5 hk5
          obtain ⟨am1, cm1, rfl, hcm1⟩ := owns_slice ho5
          have hps := HK.out.push ho3 hg3 hk3 ho5 hg5 hk5
          have hc52 : w5.cell? ⟨B, 2, none⟩ = some vm := by rw [cell_of_heap hps.1]; rfl
          have hf52 : w5.frozen? ⟨B, 2, none⟩ = false := frozen_of_heap hps.1 2
          have HK2 := hps.2
          have HK2' : Hid (KS w G (fun q => D q ∨ (Value.slice al k cl).ownBlock = some q) (fun q => vl.ownBlock = some q) (fun q => vm.ownBlock = some q) B va ((last : Int) + 1) m _ D1 _ _ (.slice al k cl) k (us ++ [.slice al k cl]) (ms ++ [m])) := HK2
          clear hps HK2 HK hom hlen2 ho3 hg3 hk3 ho5 hg5 hk5 hc31 hf31 hc32
          go_wp2_with fail
          go_loopw [1, 7] (fun l' i wx => ∃ (j : Nat) (D' : Nat → Prop) (vl' vm' : Value) (us' : List Value) (ms' : List Wd), j ≤ 8 ∧ i = .int .i64 j ∧ us'.length = us.length + 1 + j ∧ KS w G (fun q => D q ∨ (Value.slice al k cl).ownBlock = some q) (fun q => vl.ownBlock = some q) (fun q => vm.ownBlock = some q) B va ((last : Int) + 1) m wx D' vl' vm' l' (k + j) us' ms') (fun _ i _ => 8 - (intOf i).toNat)
          case atStart => exact ⟨0, D1, _, _, _, _, Nat.zero_le _, rfl, by simp, HK2'.out⟩
          case round =>
            obtain ⟨j, D', vl', vm', us', ms', hj, rfl, hul, hks⟩ := hrel
            obtain ⟨ax, cx, rfl, hcx⟩ := owns_slice hks.cur.row
            have HU : Hid (us'.length = us.length + 1 + j) := hul
            have hul2 : us'.length ≤ 17179869193 := by omega
            clear hul
            by_cases hlt8 : j < 8
            · have HK : Hid (KS w G (fun q => D q ∨ (Value.slice al k cl).ownBlock = some q) (fun q => vl.ownBlock = some q) (fun q => vm.ownBlock = some q) B va ((last : Int) + 1) m wr D' vl' vm' (.slice ax (k + j) cx) (k + j) us' ms') := hks
              have hrow := hks.cur.row
              clear hks HK2'
              go_wp2_with (at_builtin; go_must (refine wpList_append_two _ rfl _ _ 31 rfl 0 9 i0 (.string ⟨#[]⟩) 16 Tryz.underlying31 hi hz0 hz1 hz2 rfl _ _ _ rfl (hrow.alloc _) _ [mVal m] rfl ?e0 ?e00 ?e1 ?e2 ?e3 ?_))
              case e0 => go_light; exact Rd.one (cell_new' rfl)
              case e00 => intro u hu; simp at hu; subst hu; rfl
              case e1 => simp; omega
              case e2 => simp [maxLen]; omega
              case e3 => exact Nat.zero_le _
              intro lx wx1 hox hgx hkx
              obtain ⟨D2, hks2⟩ := HK.out.more hox hgx hkx
              obtain ⟨ay, cy, rfl, hcy⟩ := owns_slice hox
              clear HK hrow hox hgx hkx
              have hc1 : wx1.cell? ⟨B, 1, none⟩ = some vl' := by rw [cell_of_heap hks2.heap]; rfl
              have HK : Hid (KS w G (fun q => D q ∨ (Value.slice al k cl).ownBlock = some q) (fun q => vl.ownBlock = some q) (fun q => vm.ownBlock = some q) B va ((last : Int) + 1) m wx1 D2 vl' vm' (.slice ay (k + j + 1) cy) (k + j + 1) us' ms') := hks2
              clear hks2
              go_wp2_with (at_builtin; go_must (refine wpList_append_full _ rfl _ _ 72 rfl 0 31 i8 (.slice none 0 0) 24 Tryz.underlying72 hi8 hy0 hy1 hy2 rfl _ _ _ rfl (HK.out.lists.ol.alloc _) _ [.slice ay (k + j + 1) cy] rfl ?f0 ?f00 ?f1 ?f2 ?f3 ?_))
              case f0 => go_light; exact Rd.one (cell_new' rfl)
              case f00 => intro u hu; simp at hu; subst hu; rfl
              case f1 => simp; omega
              case f2 => simp [maxLen]; omega
              case f3 => exact Nat.zero_le _
              intro vl1 w6 ho6 hg6 hk6
              obtain ⟨al2, cl2, rfl, hcl2⟩ := owns_slice ho6
              have hmid := HK.out.mid ho6 hg6 hk6
              have hc31 : w6.cell? ⟨B, 1, none⟩ = some vl' := by rw [cell_of_heap hmid.1]; rfl
              have hf31 : w6.frozen? ⟨B, 1, none⟩ = false := frozen_of_heap hmid.1 1
              have hc32 : w6.cell? ⟨B, 2, none⟩ = some vm' := by rw [cell_of_heap hmid.1]; rfl
              have hom := hmid.2.1.om
              have hlen2 : ms'.length ≤ 17179869193 := by have := HK.out.len; omega
              clear hmid hc1
              go_wp2_with (at_builtin; go_must (refine wpList_append_full _ rfl _ _ 31 rfl 0 9 i0 (.string ⟨#[]⟩) 16 Tryz.underlying31 hi hz0 hz1 hz2 rfl _ _ _ rfl (hom.alloc _) _ [mVal m] rfl ?g0 ?g00 ?g1 ?g2 ?g3 ?_))
              case g0 => go_light; exact Rd.one (cell_new' (by simp))
              case g00 => intro u hu; simp at hu; subst hu; rfl
              case g1 => simp; omega
              case g2 => simp [maxLen]; omega
              case g3 => exact Nat.zero_le _
              intro vm2 w7 ho7 hg7 hk7
              obtain ⟨am2, cm2, rfl, hcm2⟩ := owns_slice ho7
              have hps := HK.out.push ho6 hg6 hk6 ho7 hg7 hk7
              have hc72 : w7.cell? ⟨B, 2, none⟩ = some vm' := by rw [cell_of_heap hps.1]; rfl
              have hf72 : w7.frozen? ⟨B, 2, none⟩ = false := frozen_of_heap hps.1 2
              have HK3 : Hid (KS w G (fun q => D q ∨ (Value.slice al k cl).ownBlock = some q) (fun q => vl.ownBlock = some q) (fun q => vm.ownBlock = some q) B va ((last : Int) + 1) m (w7.setCell ⟨B, 2, none⟩ _) D2 _ _ (.slice ay (k + j + 1) cy) (k + j + 1) (us' ++ [.slice ay (k + j + 1) cy]) (ms' ++ [m])) := hps.2
              clear hps HK hom hlen2 ho6 hg6 hk6 ho7 hg7 hk7 hc31 hf31 hc32
              go_wp2
              go_roundw
              case rel => exact ⟨j + 1, D2, _, _, _, _, by omega, by go_num, by have := HU.out; simp; omega, HK3.out⟩
              case measure => simp [intOf]; omega
            · have hj8 : j = 8 := by omega
              subst hj8
              go_wp2
              go_end0
              refine ⟨rfl, D', vl', vm', us', ms', ?_, hks.lists, hks.len, ?_, ?_, ?_, hks.gl, hks.gm⟩
              · have := hks.heap; simpa using this
              · have := HU.out; omega
              · have := hks.frame; rw [HG.out] at this; exact this
              · intro q hq
                rcases hks.dd q hq with (h1 | h1) | h1
                · exact Or.inl h1
                · exact Or.inr (Or.inl h1)
                · exact Or.inr (Or.inr h1)

end Go.Proofs.YtocbogeoffeolaaGreatDoor
