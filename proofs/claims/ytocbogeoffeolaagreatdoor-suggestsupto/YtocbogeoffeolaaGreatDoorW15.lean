/-
  WALKS: hintlaw: step: Observe, Suggest.
-/
import Derived.Test.YtocbogeoffeolaaGreatDoorW14
namespace Go.Proofs.YtocbogeoffeolaaGreatDoor
open Go.RowKit

section
variable {pe : World → (Nat → Prop) → Nat → List (List Wd) → Prop}

theorem obs_ne {w : World} {B : Nat} {cs cs' : Array Value} {t t' : TypeId} {fz fz' : Nat × Nat} {b : Nat} (h : w.heap[B]? = some (.cells cs t fz)) (h' : w.heap[b]? = some (.cells cs' t' fz')) (hne : t ≠ t') : B ≠ b := by
  intro e
  rw [e, h'] at h
  simp only [Option.some.injEq, Obj.cells.injEq] at h
  exact hne h.2.1.symm

set_option maxHeartbeats 2000000 in
set_option maxRecDepth 100000 in
theorem step_obs (hp : ProgOK pe) (w0 w : World) (B : Nat) (D : Nat → Prop) (va vl vm : Value) (last : Nat) (us : List Value) (ms : List Wd) (es : List Eng) (M : Nat) (W N Mm K : Int) (S T : ByteArray) (L : Value) (made : Bool)
    (h : GS pe w0 w B D va vl vm last us ms es) (h1 : 1 ≤ es.length) (hle : es.length ≤ 10) (hLs : ∃ a n c, L = .slice a n c) (hbk : ∀ i (h : i < es.length), bulkT es[i].ts ≤ M) (hM : M ≤ 16777216) (hW0 : -9223372036854775808 ≤ W) (hW1 : W ≤ 9223372036854775807)
    (hS : S.size ≤ maxLen) (hl : last ≤ 1073741824) (hu : us.length ≤ 17179869184) :
    Calls Tryz.prog 41 #[.pointer (some ⟨B, 0, none⟩), .agg (opV 10 W N Mm K S T L made)] w fun e w' => e = .returned (.bool true) ∧ Next pe w0 w' B last us es M := by
  obtain ⟨aL, nL, cL, rfl⟩ := hLs
  have HP : Hid (ProgOK pe) := hp
  have hi := pickN_lt W es.length h1
  obtain ⟨i, hie⟩ : ∃ i, i = pickN W es.length := ⟨_, rfl⟩
  rw [← hie] at hi
  obtain ⟨g, c, hva, hcx, hcy⟩ := row_cells h i hi
  subst hva
  have HIE : Hid (i = pickN W es.length) := hie
  have HG : Hid (GS pe w0 w B D (.slice (some ⟨g, 0, none⟩) es.length c) vl vm last us ms es) := h
  have HK : Hid (∀ i (h : i < es.length), bulkT es[i].ts ≤ M) := hbk
  have hc0 : w.cell? ⟨B, 0, none⟩ = some (.slice (some ⟨g, 0, none⟩) es.length c) := by rw [cell_of_heap h.heap]; rfl
  have hBz := h.bz
  have hgz : g < w.heap.size := cell_lt hcx
  clear hp h hbk hie
  unfold opV
  generalize hbx : es[i].bx = bx at *
  generalize hby : es[i].byy = byy at *
  have HBX : Hid (es[i].bx = bx) := hbx
  have HBY : Hid (es[i].byy = byy) := hby
  clear hbx hby
  go_enter Tryz.func41, Tryz.ntmps41
  go_upto_region 5 with fail
  have HPK : Hid (∀ w' : World, Calls Tryz.prog 75 #[.int .i64 W, .int .i64 es.length] w' fun e w'' => e = .returned (.int .i64 i) ∧ w' = w'') := fun w' => by
    have := pick_any W es.length w' hW0 hW1 h1 (by omega)
    rw [← HIE.out] at this
    exact this
  have hq0 : (w.alloc (.cells #[.int .i64 10, .int .i64 W, .int .i64 N, .int .i64 Mm, .int .i64 K, .string S, .string T, .slice aL nL cL, .bool made] 77)).cell? ⟨B, 0, none⟩ = some (.slice (some ⟨g, 0, none⟩) es.length c) := by rw [World.cell?_alloc_past _ _ _ hBz]; exact hc0
  have hq1 : (w.alloc (.cells #[.int .i64 10, .int .i64 W, .int .i64 N, .int .i64 Mm, .int .i64 K, .string S, .string T, .slice aL nL cL, .bool made] 77)).cell? ⟨w.heap.size, 1, none⟩ = some (.int .i64 W) := by rw [World.cell?_alloc_at _ _ _ _ rfl]; rfl
  have hq2 : (w.alloc (.cells #[.int .i64 10, .int .i64 W, .int .i64 N, .int .i64 Mm, .int .i64 K, .string S, .string T, .slice aL nL cL, .bool made] 77)).cell? ⟨g, i * 2, none⟩ = some (.pointer (some ⟨bx, 0, none⟩)) := by rw [World.cell?_alloc_past _ _ _ hgz]; exact hcx
  have hq3 : (w.alloc (.cells #[.int .i64 10, .int .i64 W, .int .i64 N, .int .i64 Mm, .int .i64 K, .string S, .string T, .slice aL nL cL, .bool made] 77)).cell? ⟨g, i * 2 + 1, none⟩ = some (.pointer (some ⟨byy, 0, none⟩)) := by rw [World.cell?_alloc_past _ _ _ hgz]; exact hcy
  have hii : (i : Int) < (es.length : Int) := by omega
  have hne1 : B ≠ w.heap.size := by omega
  go_region_held (fun w' => w'.cell? ⟨B, 0, none⟩ = some (.slice (some ⟨g, 0, none⟩) es.length c) ∧ w'.cell? ⟨w.heap.size, 1, none⟩ = some (.int .i64 W) ∧ w'.cell? ⟨g, i * 2, none⟩ = some (.pointer (some ⟨bx, 0, none⟩)) ∧ w'.cell? ⟨g, i * 2 + 1, none⟩ = some (.pointer (some ⟨byy, 0, none⟩))) (go_keep) (first | (go_at_call 75; refine (HPK.out _).mono ?_; rintro e w' ⟨rfl, rfl⟩))
  all_goals
    clear hq0 hq1 hq2 hq3 hcx hcy hc0
    go_wp2_with fail
    have hb1 : Below w.heap.size w ((w.alloc (.cells #[.int .i64 10, .int .i64 W, .int .i64 N, .int .i64 Mm, .int .i64 K, .string S, .string T, .slice aL nL cL, .bool made] 77)).alloc (.cells #[.pointer (some ⟨bx, 0, none⟩), .pointer (some ⟨byy, 0, none⟩)] 122)).drew := (((Below.refl _ _).alloc (Nat.le_refl _) _).alloc (by simp) _).drew
    have hG1 := HG.out.below HP.out hb1
    generalize ((w.alloc (.cells #[.int .i64 10, .int .i64 W, .int .i64 N, .int .i64 Mm, .int .i64 K, .string S, .string T, .slice aL nL cL, .bool made] 77)).alloc (.cells #[.pointer (some ⟨bx, 0, none⟩), .pointer (some ⟨byy, 0, none⟩)] 122)).drew = w1 at *
    have hbf := hG1.before i hi (by have := HK.out i hi; omega) hl hu
    rw [HBX.out, HBY.out] at hbf
    refine (tells_obs HP.out w1 _ _ _ _ _ _ _ _ _ _ _ _ _ _ _ W N Mm K S T _ made hbf hS ⟨aL, nL, cL, rfl⟩).mono ?_
    rintro e w2 ⟨rfl, haf⟩
    rw [← HBX.out, ← HBY.out] at haf
    obtain ⟨D', vl', vm', us', ms', e', hG2, hts, hul⟩ := hG1.after HP.out i hi haf
    have HN : Hid (Next pe w0 w2 B last us es M) := ⟨D', _, vl', vm', last, us', ms', es.set i e', hG2, by omega, hul, by simp, by simp, fun j hj => by
      rw [List.length_set] at hj
      rw [List.getElem_set]
      split
      · rw [hts]; have := bulk_obs es[i].ts S.data.toList; have := HK.out i hi; omega
      · have := HK.out j hj; omega⟩
    clear hG2 hts hul haf hbf hG1 hb1
    go_wp2
    go_ret
    exact ⟨rfl, HN.out⟩
end

end Go.Proofs.YtocbogeoffeolaaGreatDoor
