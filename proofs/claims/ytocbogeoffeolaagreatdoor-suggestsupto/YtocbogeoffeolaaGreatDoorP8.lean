/-
  WALKS: the program's own: the score of a word behind none, one, two.
-/
import Derived.Test.YtocbogeoffeolaaGreatDoorP6
import Derived.Test.YtocbogeoffeolaaGreatDoorMaths
namespace Go.Proofs.YtocbogeoffeolaaGreatDoor
open Go.RowKit Go.Maps

def resO : Obj := .cells #[.int .u64 0, .int .u64 0] 147
def arrO (x y z : ByteArray) : Obj := .cells #[.string x, .string y, .string z] 143

theorem Rd.alloc {w : World} {v : Value} {xs : List Value} (h : Rd w v xs) (o : Obj) : Rd (w.alloc o) v xs := h.below ((Below.refl _ _).alloc (Nat.le_refl _) _)

/-- What lies in the world when the two runs are laid. -/
structure ScW (w W : World) (b o B n : Nat) (ts : List (List Wd)) (r g h : Nat) (x y z x' y' z' : ByteArray) : Prop where
  base : Below w.heap.size w W
  res : W.heap[r]? = some resO
  fst : W.heap[g]? = some (arrO x y z)
  snd : W.heap[h]? = some (arrO x' y' z')
  map : W.cell? ⟨b, o, none⟩ = some (.map (some B))
  cnt : CntMap W B n (cntW ts)

theorem scW {w W1 : World} {b o B n : Nat} {ts : List (List Wd)} (hB : w.cell? ⟨b, o, none⟩ = some (.map (some B))) (hC : CntMap w B n (cntW ts)) (hb1 : Below (w.alloc resO).heap.size (w.alloc resO) W1) (x y z x' y' z' : ByteArray) :
    ScW w ((W1.alloc (arrO x y z)).alloc (arrO x' y' z')) b o B n ts w.heap.size W1.heap.size (W1.heap.size + 1) x y z x' y' z' := by
  have hz : (w.alloc resO).heap.size = w.heap.size + 1 := by simp
  have hz1 := hb1.size
  rw [hz] at hb1 hz1
  have h1 : Below w.heap.size w W1 := ((Below.refl _ _).alloc (Nat.le_refl _) _).trans (hb1.mono (by omega))
  have h2 : Below w.heap.size w ((W1.alloc (arrO x y z)).alloc (arrO x' y' z')) := (h1.alloc (by omega) _).alloc (by simp; omega) _
  refine ⟨h2, ?_, ?_, ?_, cell_later h2 hB, hC.below h2⟩
  · rw [Below.heap_alloc _ _ _ (by simp; omega), Below.heap_alloc _ _ _ (by omega), hb1.block _ (by omega)]
    exact heap_new _ _
  · rw [Below.heap_alloc _ _ _ (by simp)]
    exact heap_new _ _
  · have e : W1.heap.size + 1 = (W1.alloc (arrO x y z)).heap.size := by simp
    rw [e]
    exact heap_new _ _

theorem u64_wrap (n : Nat) (h : n < 18446744073709551616) : IntKind.u64.wrap (n : Int) = (n : Int) := by rw [IntKind.wrap_u64]; omega

set_option maxHeartbeats 1000000 in
set_option maxRecDepth 100000 in
theorem score0 (b o B n : Nat) (ts : List (List Wd)) (vl : Value) (x : Wd) (w : World) (hG : w.cell? ⟨0, 0, none⟩ = some (.int .u64 4)) (hB : w.cell? ⟨b, o, none⟩ = some (.map (some B))) (hC : CntMap w B n (cntW ts)) (hl : Rd w vl (strVals [])) (hx : x ≠ [] ∧ x.length ≤ 24) (hbk : bulkT ts ≤ 16777216) :
    Calls Tryz.prog 95 #[.pointer (some ⟨b, o, none⟩), vl, .string ⟨x.toArray⟩] w fun e w' => e = .returned (.agg #[.int .u64 ((psc ts x []).1 : Int), .int .u64 ((psc ts x []).2 : Int)]) ∧ Below w.heap.size w w' := by
  have hrun := runOf_any vl [] (w.alloc resO) (hl.alloc _) (by simp)
  have HL : Hid (Rd w vl (strVals [])) := hl
  obtain ⟨a, c, rfl, hc, hm, _⟩ := hl
  have HR : IsRun ([] : List Wd) := ⟨by simp, by simp⟩
  have HR1 : IsRun [x] := ⟨by simp, by simpa using hx⟩
  have hc1 := cntW_le ts [x]
  have hc0 := cntW_le ts []
  have HLs : (strVals []).length = 0 := rfl
  rw [HLs] at hrun hc HL ⊢
  clear HLs
  go_enter Tryz.func95, Tryz.ntmps95
  go_wp2_with fail
  refine hrun.mono ?_
  rintro e W1 ⟨rfl, hb1⟩
  rw [show keyV [] = .agg #[.string ⟨#[]⟩, .string ⟨#[]⟩, .string ⟨#[]⟩] from rfl]
  have hS := scW hB hC hb1 ⟨#[]⟩ ⟨#[]⟩ ⟨#[]⟩ ⟨x.toArray⟩ ⟨#[]⟩ ⟨#[]⟩
  clear hrun hb1
  go_wp2_with fail
  unfold arrO at hS
  generalize (W1.alloc (.cells #[.string ⟨#[]⟩, .string ⟨#[]⟩, .string ⟨#[]⟩] 143)).alloc (.cells #[.string ⟨x.toArray⟩, .string ⟨#[]⟩, .string ⟨#[]⟩] 143) = W2 at *
  generalize W1.heap.size = g at *
  have hGw := cell_later hS.base hG
  have hMw := hS.map
  have hl1 := (hS.cnt.stay (w' := W2.drew) rfl).look HR1
  have hl2 := (hS.cnt.stay (w' := W2.drew.drew) rfl).look HR1
  have hl0 := (hS.cnt.stay (w' := W2.drew.drew) rfl).look HR
  rw [show keyV [] = .agg #[.string ⟨#[]⟩, .string ⟨#[]⟩, .string ⟨#[]⟩] from rfl] at hl0
  rw [show keyV [x] = .agg #[.string ⟨x.toArray⟩, .string ⟨#[]⟩, .string ⟨#[]⟩] from rfl] at hl1 hl2
  have f0 : W2.cell? ⟨g, 0, none⟩ = some (.string ⟨#[]⟩) := cell_of_heap hS.fst 0
  have f1 : W2.cell? ⟨g, 1, none⟩ = some (.string ⟨#[]⟩) := cell_of_heap hS.fst 1
  have f2 : W2.cell? ⟨g, 2, none⟩ = some (.string ⟨#[]⟩) := cell_of_heap hS.fst 2
  have s0 : W2.cell? ⟨g + 1, 0, none⟩ = some (.string ⟨x.toArray⟩) := cell_of_heap hS.snd 0
  have s1 : W2.cell? ⟨g + 1, 1, none⟩ = some (.string ⟨#[]⟩) := cell_of_heap hS.snd 1
  have s2 : W2.cell? ⟨g + 1, 2, none⟩ = some (.string ⟨#[]⟩) := cell_of_heap hS.snd 2
  have r0 : W2.cell? ⟨w.heap.size, 0, none⟩ = some (.int .u64 0) := cell_of_heap hS.res 0
  have r1 : W2.cell? ⟨w.heap.size, 1, none⟩ = some (.int .u64 0) := cell_of_heap hS.res 1
  have z0 : W2.frozen? ⟨w.heap.size, 0, none⟩ = false := frozen_of_heap hS.res 0
  have z1 : W2.frozen? ⟨w.heap.size, 1, none⟩ = false := frozen_of_heap hS.res 1
  have HSW := hS
  have HS := hS.base
  clear hS
  obtain ⟨p, hpe⟩ : ∃ p, p = cntW ts [x] := ⟨_, rfl⟩
  obtain ⟨q, hqe⟩ : ∃ q, q = cntW ts [] := ⟨_, rfl⟩
  rw [← hpe] at hl1 hl2 hc1
  rw [← hqe] at hl0 hc0
  have HPE : Hid (p = cntW ts [x]) := hpe
  have HQE : Hid (q = cntW ts []) := hqe
  clear hpe hqe
  obtain ⟨pi, hpi⟩ : ∃ pi : Int, pi = (p : Int) := ⟨_, rfl⟩
  rw [← hpi] at hl1 hl2
  have HPI : Hid (pi = (p : Int)) := hpi
  have hp0 : 0 ≤ pi := by omega
  have hp1 : pi ≤ 16777216 := by omega
  have hwr : IntKind.u64.wrap (pi * 4) = pi * 4 := by rw [IntKind.wrap_u64]; omega
  clear hpi
  by_cases hz : pi = 0
  · subst hz
    go_region
    go_wp2_with fail
    go_region
    go_wp2
    refine bodyPost_ret (v := .agg #[.int .u64 0, .int .u64 (q : Int)]) (by simp [results, Tryz.results95, go_sem, r0, r1]) rfl ⟨?_, ?_⟩
    · have h1 := HPI.out
      have hp : cntW ts [x] = 0 := by rw [← HPE.out]; omega
      unfold psc
      rw [hp, HQE.out]
      rfl
    · exact (HS.drew.drew.setCell (Nat.le_refl _) _).setCell (Nat.le_refl _) _
  · have hne : (pi == 0) = false := by simpa using hz
    go_region
    go_wp2_with fail
    go_region
    go_wp2
    refine bodyPost_ret (v := .agg #[.int .u64 (pi * 4), .int .u64 (q : Int)]) (by simp [results, Tryz.results95, go_sem, r0, r1]) rfl ⟨?_, ?_⟩
    · have h1 := HPI.out
      unfold psc
      rw [HPI.out, HPE.out, HQE.out]
      rfl
    · exact (HS.drew.drew.setCell (Nat.le_refl _) _).setCell (Nat.le_refl _) _

end Go.Proofs.YtocbogeoffeolaaGreatDoor

namespace Go.Proofs.YtocbogeoffeolaaGreatDoor
open Go.RowKit Go.Maps

set_option maxHeartbeats 1000000 in
set_option maxRecDepth 100000 in
theorem score1 (b o B n : Nat) (ts : List (List Wd)) (vl : Value) (u : Wd) (x : Wd) (w : World) (hG0 : w.cell? ⟨0, 0, none⟩ = some (.int .u64 4)) (hG : w.cell? ⟨0, 1, none⟩ = some (.int .u64 10)) (hB : w.cell? ⟨b, o, none⟩ = some (.map (some B))) (hC : CntMap w B n (cntW ts)) (hl : Rd w vl (strVals [u])) (hu : u ≠ [] ∧ u.length ≤ 24) (hx : x ≠ [] ∧ x.length ≤ 24) (hbk : bulkT ts ≤ 16777216) :
    Calls Tryz.prog 95 #[.pointer (some ⟨b, o, none⟩), vl, .string ⟨x.toArray⟩] w fun e w' => e = .returned (.agg #[.int .u64 ((psc ts x [u]).1 : Int), .int .u64 ((psc ts x [u]).2 : Int)]) ∧ Below w.heap.size w w' := by
  have hrun := runOf_any vl [u] (w.alloc resO) (hl.alloc _) (by simp)
  have HL : Hid (Rd w vl (strVals [u])) := hl
  obtain ⟨a, c, rfl, hc, hm, hr⟩ := hl
  obtain ⟨ba, oa, rfl, _⟩ := hr 0 _ rfl
  clear hr
  have HR : IsRun ([u] : List Wd) := ⟨by simp, by simpa using hu⟩
  have HR1 : IsRun [u, x] := ⟨by simp, by simp [hu, hx]⟩
  have hc1 := cntW_le ts [u, x]
  have hc0 := cntW_le ts [u]
  have HLs : (strVals [u]).length = 1 := rfl
  rw [HLs] at hrun hc HL ⊢
  clear HLs
  have hcc : (1 : Int) ≤ (c : Int) := by omega
  have hRe : ∀ V, (V = .slice (some ⟨ba, oa, none⟩) 0 0 ∨ V = .slice (some ⟨ba, oa + 1, none⟩) 0 (c - 1)) → Rd w V (strVals []) := by
    rintro V (rfl | rfl)
    · exact Rd.empty' rfl (by unfold maxLen; omega)
    · exact Rd.empty' rfl (by omega)
  go_enter Tryz.func95, Tryz.ntmps95
  go_wp2_with fail
  refine hrun.mono ?_
  rintro e W1 ⟨rfl, hb1⟩
  rw [show keyV [u] = .agg #[.string ⟨u.toArray⟩, .string ⟨#[]⟩, .string ⟨#[]⟩] from rfl]
  have hS := scW hB hC hb1 ⟨u.toArray⟩ ⟨#[]⟩ ⟨#[]⟩ ⟨u.toArray⟩ ⟨x.toArray⟩ ⟨#[]⟩
  clear hrun hb1
  go_wp2_with fail
  unfold arrO at hS
  generalize (W1.alloc (.cells #[.string ⟨u.toArray⟩, .string ⟨#[]⟩, .string ⟨#[]⟩] 143)).alloc (.cells #[.string ⟨u.toArray⟩, .string ⟨x.toArray⟩, .string ⟨#[]⟩] 143) = W2 at *
  generalize W1.heap.size = g at *
  have hGw := cell_later hS.base hG
  have hMw := hS.map
  have hl1 := (hS.cnt.stay (w' := W2.drew) rfl).look HR1
  have hl2 := (hS.cnt.stay (w' := W2.drew.drew) rfl).look HR1
  have hl0 := (hS.cnt.stay (w' := W2.drew.drew) rfl).look HR
  rw [show keyV [u] = .agg #[.string ⟨u.toArray⟩, .string ⟨#[]⟩, .string ⟨#[]⟩] from rfl] at hl0
  rw [show keyV [u, x] = .agg #[.string ⟨u.toArray⟩, .string ⟨x.toArray⟩, .string ⟨#[]⟩] from rfl] at hl1 hl2
  have f0 : W2.cell? ⟨g, 0, none⟩ = some (.string ⟨u.toArray⟩) := cell_of_heap hS.fst 0
  have f1 : W2.cell? ⟨g, 1, none⟩ = some (.string ⟨#[]⟩) := cell_of_heap hS.fst 1
  have f2 : W2.cell? ⟨g, 2, none⟩ = some (.string ⟨#[]⟩) := cell_of_heap hS.fst 2
  have s0 : W2.cell? ⟨g + 1, 0, none⟩ = some (.string ⟨u.toArray⟩) := cell_of_heap hS.snd 0
  have s1 : W2.cell? ⟨g + 1, 1, none⟩ = some (.string ⟨x.toArray⟩) := cell_of_heap hS.snd 1
  have s2 : W2.cell? ⟨g + 1, 2, none⟩ = some (.string ⟨#[]⟩) := cell_of_heap hS.snd 2
  have r0 : W2.cell? ⟨w.heap.size, 0, none⟩ = some (.int .u64 0) := cell_of_heap hS.res 0
  have r1 : W2.cell? ⟨w.heap.size, 1, none⟩ = some (.int .u64 0) := cell_of_heap hS.res 1
  have z0 : W2.frozen? ⟨w.heap.size, 0, none⟩ = false := frozen_of_heap hS.res 0
  have z1 : W2.frozen? ⟨w.heap.size, 1, none⟩ = false := frozen_of_heap hS.res 1
  have HSW := hS
  have HS := hS.base
  clear hS
  obtain ⟨p, hpe⟩ : ∃ p, p = cntW ts [u, x] := ⟨_, rfl⟩
  obtain ⟨q, hqe⟩ : ∃ q, q = cntW ts [u] := ⟨_, rfl⟩
  rw [← hpe] at hl1 hl2 hc1
  rw [← hqe] at hl0 hc0
  have HPE : Hid (p = cntW ts [u, x]) := hpe
  have HQE : Hid (q = cntW ts [u]) := hqe
  clear hpe hqe
  obtain ⟨pi, hpi⟩ : ∃ pi : Int, pi = (p : Int) := ⟨_, rfl⟩
  rw [← hpi] at hl1 hl2
  have HPI : Hid (pi = (p : Int)) := hpi
  have hp0 : 0 ≤ pi := by omega
  have hp1 : pi ≤ 16777216 := by omega
  have hwr : IntKind.u64.wrap (pi * 10) = pi * 10 := by rw [IntKind.wrap_u64]; omega
  clear hpi
  by_cases hz : pi = 0
  · have HPs : Hid (psc ts x [u] = psc ts x []) := by
      show psc ts x [u] = _
      have h1 := HPI.out
      have hp : cntW ts [u, x] = 0 := by rw [← HPE.out]; omega
      simp [psc, hp]
    subst hz
    have hrec : ∀ V, Rd w V (strVals []) → Calls Tryz.prog 95 #[.pointer (some ⟨b, o, none⟩), V, .string ⟨x.toArray⟩] W2.drew fun e w4 => e = .returned (.agg #[.int .u64 ((psc ts x [u]).1 : Int), .int .u64 ((psc ts x [u]).2 : Int)]) ∧
        Below w.heap.size w w4 ∧ w4.cell? ⟨w.heap.size, 0, none⟩ = some (.int .u64 0) ∧ w4.cell? ⟨w.heap.size, 1, none⟩ = some (.int .u64 0) ∧ w4.frozen? ⟨w.heap.size, 0, none⟩ = false ∧ w4.frozen? ⟨w.heap.size, 1, none⟩ = false := by
      intro V hV
      rw [HPs.out]
      have hbd : Below w.heap.size w W2.drew := HS.drew
      refine (score0 b o B n ts _  x W2.drew (cell_later hbd hG0) hMw (HSW.cnt.stay rfl) (hV.below hbd)  hx hbk).mono ?_
      rintro e w4 ⟨rfl, hb4⟩
      have hr : w.heap.size < W2.heap.size := (Array.getElem?_eq_some_iff.1 HSW.res).1
      have hh : w4.heap[w.heap.size]? = some resO := by rw [hb4.block w.heap.size hr]; exact HSW.res
      exact ⟨rfl, hbd.trans (hb4.mono hbd.size), cell_of_heap hh 0, cell_of_heap hh 1, frozen_of_heap hh 0, frozen_of_heap hh 1⟩
    obtain ⟨p1, hp1e⟩ : ∃ p1, p1 = (psc ts x [u]).1 := ⟨_, rfl⟩
    obtain ⟨p2, hp2e⟩ : ∃ p2, p2 = (psc ts x [u]).2 := ⟨_, rfl⟩
    rw [← hp1e, ← hp2e] at hrec
    have HP1 : Hid (p1 = (psc ts x [u]).1) := hp1e
    have HP2 : Hid (p2 = (psc ts x [u]).2) := hp2e
    clear hp1e hp2e
    go_region
    go_wp2_with fail
    all_goals
      refine (hrec _ (hRe _ (by simp [*]))).mono ?_
      rintro e w4 ⟨rfl, hb4, r40, r41, z40, z41⟩
      clear hrec hRe
      go_wp2
      refine bodyPost_ret (v := .agg #[.int .u64 (p1 : Int), .int .u64 (p2 : Int)]) (by simp [results, Tryz.results95, go_sem, r40, r41]) rfl ⟨?_, ?_⟩
      · rw [HP1.out, HP2.out]
      · exact (hb4.setCell (Nat.le_refl _) _).setCell (Nat.le_refl _) _
  · have hne : (pi == 0) = false := by simpa using hz
    go_region
    go_wp2_with fail
    go_region
    go_wp2
    refine bodyPost_ret (v := .agg #[.int .u64 (pi * 10), .int .u64 (q : Int)]) (by simp [results, Tryz.results95, go_sem, r0, r1]) rfl ⟨?_, ?_⟩
    · have h1 := HPI.out
      have hp : cntW ts [u, x] ≠ 0 := by rw [← HPE.out]; omega
      have hps : psc ts x [u] = (cntW ts [u, x] * 10, cntW ts [u]) := by simp [psc, hp]
      rw [hps, HPI.out, HPE.out, HQE.out]
      rfl
    · exact (HS.drew.drew.setCell (Nat.le_refl _) _).setCell (Nat.le_refl _) _

end Go.Proofs.YtocbogeoffeolaaGreatDoor

namespace Go.Proofs.YtocbogeoffeolaaGreatDoor
open Go.RowKit Go.Maps

set_option maxHeartbeats 1000000 in
set_option maxRecDepth 100000 in
theorem score2 (b o B n : Nat) (ts : List (List Wd)) (vl : Value) (u : Wd) (v : Wd) (x : Wd) (w : World) (hG0 : w.cell? ⟨0, 0, none⟩ = some (.int .u64 4)) (hG1 : w.cell? ⟨0, 1, none⟩ = some (.int .u64 10)) (hG : w.cell? ⟨0, 2, none⟩ = some (.int .u64 25)) (hB : w.cell? ⟨b, o, none⟩ = some (.map (some B))) (hC : CntMap w B n (cntW ts)) (hl : Rd w vl (strVals [u, v])) (hu : u ≠ [] ∧ u.length ≤ 24) (hv : v ≠ [] ∧ v.length ≤ 24) (hx : x ≠ [] ∧ x.length ≤ 24) (hbk : bulkT ts ≤ 16777216) :
    Calls Tryz.prog 95 #[.pointer (some ⟨b, o, none⟩), vl, .string ⟨x.toArray⟩] w fun e w' => e = .returned (.agg #[.int .u64 ((psc ts x [u, v]).1 : Int), .int .u64 ((psc ts x [u, v]).2 : Int)]) ∧ Below w.heap.size w w' := by
  have hrun := runOf_any vl [u, v] (w.alloc resO) (hl.alloc _) (by simp)
  have HL : Hid (Rd w vl (strVals [u, v])) := hl
  obtain ⟨a, c, rfl, hc, hm, hr⟩ := hl
  obtain ⟨ba, oa, rfl, _⟩ := hr 0 _ rfl
  clear hr
  have HR : IsRun ([u, v] : List Wd) := ⟨by simp, by simp [hu, hv]⟩
  have HR1 : IsRun [u, v, x] := ⟨by simp, by simp [hu, hv, hx]⟩
  have hc1 := cntW_le ts [u, v, x]
  have hc0 := cntW_le ts [u, v]
  have HLs : (strVals [u, v]).length = 2 := rfl
  rw [HLs] at hrun hc HL ⊢
  clear HLs
  have hcc : (2 : Int) ≤ (c : Int) := by omega
  have hRe : ∀ V, V = .slice (some ⟨ba, oa + 1, none⟩) 1 (c - 1) → Rd w V (strVals [v]) := by
    rintro V rfl
    have := HL.out.drop_str_lt 1 (by simp) (by omega) rfl
    exact this
  have hc1n : c ≠ 1 := by omega
  go_enter Tryz.func95, Tryz.ntmps95
  go_wp2_with fail
  refine hrun.mono ?_
  rintro e W1 ⟨rfl, hb1⟩
  rw [show keyV [u, v] = .agg #[.string ⟨u.toArray⟩, .string ⟨v.toArray⟩, .string ⟨#[]⟩] from rfl]
  have hS := scW hB hC hb1 ⟨u.toArray⟩ ⟨v.toArray⟩ ⟨#[]⟩ ⟨u.toArray⟩ ⟨v.toArray⟩ ⟨x.toArray⟩
  clear hrun hb1
  go_wp2_with fail
  unfold arrO at hS
  generalize (W1.alloc (.cells #[.string ⟨u.toArray⟩, .string ⟨v.toArray⟩, .string ⟨#[]⟩] 143)).alloc (.cells #[.string ⟨u.toArray⟩, .string ⟨v.toArray⟩, .string ⟨x.toArray⟩] 143) = W2 at *
  generalize W1.heap.size = g at *
  have hGw := cell_later hS.base hG
  have hMw := hS.map
  have hl1 := (hS.cnt.stay (w' := W2.drew) rfl).look HR1
  have hl2 := (hS.cnt.stay (w' := W2.drew.drew) rfl).look HR1
  have hl0 := (hS.cnt.stay (w' := W2.drew.drew) rfl).look HR
  rw [show keyV [u, v] = .agg #[.string ⟨u.toArray⟩, .string ⟨v.toArray⟩, .string ⟨#[]⟩] from rfl] at hl0
  rw [show keyV [u, v, x] = .agg #[.string ⟨u.toArray⟩, .string ⟨v.toArray⟩, .string ⟨x.toArray⟩] from rfl] at hl1 hl2
  have f0 : W2.cell? ⟨g, 0, none⟩ = some (.string ⟨u.toArray⟩) := cell_of_heap hS.fst 0
  have f1 : W2.cell? ⟨g, 1, none⟩ = some (.string ⟨v.toArray⟩) := cell_of_heap hS.fst 1
  have f2 : W2.cell? ⟨g, 2, none⟩ = some (.string ⟨#[]⟩) := cell_of_heap hS.fst 2
  have s0 : W2.cell? ⟨g + 1, 0, none⟩ = some (.string ⟨u.toArray⟩) := cell_of_heap hS.snd 0
  have s1 : W2.cell? ⟨g + 1, 1, none⟩ = some (.string ⟨v.toArray⟩) := cell_of_heap hS.snd 1
  have s2 : W2.cell? ⟨g + 1, 2, none⟩ = some (.string ⟨x.toArray⟩) := cell_of_heap hS.snd 2
  have r0 : W2.cell? ⟨w.heap.size, 0, none⟩ = some (.int .u64 0) := cell_of_heap hS.res 0
  have r1 : W2.cell? ⟨w.heap.size, 1, none⟩ = some (.int .u64 0) := cell_of_heap hS.res 1
  have z0 : W2.frozen? ⟨w.heap.size, 0, none⟩ = false := frozen_of_heap hS.res 0
  have z1 : W2.frozen? ⟨w.heap.size, 1, none⟩ = false := frozen_of_heap hS.res 1
  have HSW := hS
  have HS := hS.base
  clear hS
  obtain ⟨p, hpe⟩ : ∃ p, p = cntW ts [u, v, x] := ⟨_, rfl⟩
  obtain ⟨q, hqe⟩ : ∃ q, q = cntW ts [u, v] := ⟨_, rfl⟩
  rw [← hpe] at hl1 hl2 hc1
  rw [← hqe] at hl0 hc0
  have HPE : Hid (p = cntW ts [u, v, x]) := hpe
  have HQE : Hid (q = cntW ts [u, v]) := hqe
  clear hpe hqe
  obtain ⟨pi, hpi⟩ : ∃ pi : Int, pi = (p : Int) := ⟨_, rfl⟩
  rw [← hpi] at hl1 hl2
  have HPI : Hid (pi = (p : Int)) := hpi
  have hp0 : 0 ≤ pi := by omega
  have hp1 : pi ≤ 16777216 := by omega
  have hwr : IntKind.u64.wrap (pi * 25) = pi * 25 := by rw [IntKind.wrap_u64]; omega
  clear hpi
  by_cases hz : pi = 0
  · have HPs : Hid (psc ts x [u, v] = psc ts x [v]) := by
      show psc ts x [u, v] = _
      have h1 := HPI.out
      have hp : cntW ts [u, v, x] = 0 := by rw [← HPE.out]; omega
      simp [psc, hp]
    subst hz
    have hrec : ∀ V, Rd w V (strVals [v]) → Calls Tryz.prog 95 #[.pointer (some ⟨b, o, none⟩), V, .string ⟨x.toArray⟩] W2.drew fun e w4 => e = .returned (.agg #[.int .u64 ((psc ts x [u, v]).1 : Int), .int .u64 ((psc ts x [u, v]).2 : Int)]) ∧
        Below w.heap.size w w4 ∧ w4.cell? ⟨w.heap.size, 0, none⟩ = some (.int .u64 0) ∧ w4.cell? ⟨w.heap.size, 1, none⟩ = some (.int .u64 0) ∧ w4.frozen? ⟨w.heap.size, 0, none⟩ = false ∧ w4.frozen? ⟨w.heap.size, 1, none⟩ = false := by
      intro V hV
      rw [HPs.out]
      have hbd : Below w.heap.size w W2.drew := HS.drew
      refine (score1 b o B n ts _ v x W2.drew (cell_later hbd hG0) (cell_later hbd hG1) hMw (HSW.cnt.stay rfl) (hV.below hbd) hv hx hbk).mono ?_
      rintro e w4 ⟨rfl, hb4⟩
      have hr : w.heap.size < W2.heap.size := (Array.getElem?_eq_some_iff.1 HSW.res).1
      have hh : w4.heap[w.heap.size]? = some resO := by rw [hb4.block w.heap.size hr]; exact HSW.res
      exact ⟨rfl, hbd.trans (hb4.mono hbd.size), cell_of_heap hh 0, cell_of_heap hh 1, frozen_of_heap hh 0, frozen_of_heap hh 1⟩
    obtain ⟨p1, hp1e⟩ : ∃ p1, p1 = (psc ts x [u, v]).1 := ⟨_, rfl⟩
    obtain ⟨p2, hp2e⟩ : ∃ p2, p2 = (psc ts x [u, v]).2 := ⟨_, rfl⟩
    rw [← hp1e, ← hp2e] at hrec
    have HP1 : Hid (p1 = (psc ts x [u, v]).1) := hp1e
    have HP2 : Hid (p2 = (psc ts x [u, v]).2) := hp2e
    clear hp1e hp2e
    go_region
    go_wp2_with fail
    all_goals
      refine (hrec _ (hRe _ (by simp [*]))).mono ?_
      rintro e w4 ⟨rfl, hb4, r40, r41, z40, z41⟩
      clear hrec hRe
      go_wp2
      refine bodyPost_ret (v := .agg #[.int .u64 (p1 : Int), .int .u64 (p2 : Int)]) (by simp [results, Tryz.results95, go_sem, r40, r41]) rfl ⟨?_, ?_⟩
      · rw [HP1.out, HP2.out]
      · exact (hb4.setCell (Nat.le_refl _) _).setCell (Nat.le_refl _) _
  · have hne : (pi == 0) = false := by simpa using hz
    go_region
    go_wp2_with fail
    go_region
    go_wp2
    refine bodyPost_ret (v := .agg #[.int .u64 (pi * 25), .int .u64 (q : Int)]) (by simp [results, Tryz.results95, go_sem, r0, r1]) rfl ⟨?_, ?_⟩
    · have h1 := HPI.out
      have hp : cntW ts [u, v, x] ≠ 0 := by rw [← HPE.out]; omega
      have hps : psc ts x [u, v] = (cntW ts [u, v, x] * 25, cntW ts [u, v]) := by simp [psc, hp]
      rw [hps, HPI.out, HPE.out, HQE.out]
      rfl
    · exact (HS.drew.drew.setCell (Nat.le_refl _) _).setCell (Nat.le_refl _) _

end Go.Proofs.YtocbogeoffeolaaGreatDoor
