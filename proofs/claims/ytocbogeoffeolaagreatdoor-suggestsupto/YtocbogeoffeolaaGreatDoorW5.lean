/-
  WALKS: the document's own answer: score.
-/
import Derived.Test.YtocbogeoffeolaaGreatDoorW4
import Derived.Test.YtocbogeoffeolaaGreatDoorScore
import Derived.Deep.RegionWith
import Derived.Deep.RegionHeld
import Derived.Deep.CutRange
namespace Go.Proofs.YtocbogeoffeolaaGreatDoor
open Go.RowKit

theorem TextsR.below {w w' : World} {v : Value} {ts : List (List Wd)} (h : TextsR w v ts) (hb : Below w.heap.size w w') : TextsR w' v ts := by
  obtain ⟨vs, h1, h2, h3⟩ := h
  refine ⟨vs, h1, h2.below hb, fun i hi => ?_⟩
  obtain ⟨u, hu, hr⟩ := h3 i hi
  exact ⟨u, hu, hr.below hb⟩

theorem strVals_getD (ws : List Wd) (j : Nat) (h : j < ws.length) : (strVals ws)[j]? = some (.string ⟨(ws.getD j []).toArray⟩) := by
  rw [strVals_get ws j h, List.getD_eq_getElem?_getD, List.getElem?_eq_getElem h]; rfl

theorem count_lit (b g n : Nat) (vT : Value) (ts : List (List Wd)) (ws : List Wd) (w W : World) (hT : w.cell? ⟨b, 2, none⟩ = some vT) (hTs : TextsR w vT ts) (hB : bulkT ts ≤ 1099511627776)
    (hb : Below w.heap.size w W) (hg : ∀ j u, (strVals ws)[j]? = some u → W.cell? ⟨g, 0 + j, none⟩ = some u) (hn : ws.length = n) (hn3 : n ≤ 3) :
    Calls Tryz.prog 209 #[.pointer (some ⟨b, 0, none⟩), .slice (some ⟨g, 0, none⟩) n n] W fun e w' => e = .returned (.int .i64 (countL ts ws)) ∧ ∃ n, w' = W.drewN n := by
  subst hn
  refine count_any b vT _ ts ws W (cell_later hb hT) (hTs.below hb) ⟨_, ws.length, by rw [strVals_length], by rw [strVals_length]; exact Nat.le_refl _, by unfold maxLen; omega, fun j u hj => ⟨g, 0, rfl, hg j u hj⟩⟩ hB hn3

theorem cells3 {w : World} {x y z : Wd} {t : TypeId} : ∀ j u, (strVals [x, y, z])[j]? = some u → (w.alloc (.cells #[.string ⟨x.toArray⟩, .string ⟨y.toArray⟩, .string ⟨z.toArray⟩] t)).cell? ⟨w.heap.size, 0 + j, none⟩ = some u := by
  intro j u hj
  rw [World.cell?_alloc_at _ _ _ _ rfl]
  match j, hj with
  | 0, hj => simpa [strVals] using hj
  | 1, hj => simpa [strVals] using hj
  | 2, hj => simpa [strVals] using hj
  | j + 3, hj => simp [strVals] at hj
theorem cells2 {w : World} {x y : Wd} {t : TypeId} : ∀ j u, (strVals [x, y])[j]? = some u → (w.alloc (.cells #[.string ⟨x.toArray⟩, .string ⟨y.toArray⟩] t)).cell? ⟨w.heap.size, 0 + j, none⟩ = some u := by
  intro j u hj
  rw [World.cell?_alloc_at _ _ _ _ rfl]
  match j, hj with
  | 0, hj => simpa [strVals] using hj
  | 1, hj => simpa [strVals] using hj
  | j + 2, hj => simp [strVals] at hj
theorem cells1 {w : World} {x : Wd} {t : TypeId} : ∀ j u, (strVals [x])[j]? = some u → (w.alloc (.cells #[.string ⟨x.toArray⟩] t)).cell? ⟨w.heap.size, 0 + j, none⟩ = some u := by
  intro j u hj
  rw [World.cell?_alloc_at _ _ _ _ rfl]
  match j, hj with
  | 0, hj => simpa [strVals] using hj
  | j + 1, hj => simp [strVals] at hj

theorem wrapK (n k : Int) (h : n = k) (h0 : 0 ≤ n) (h1 : n ≤ 4611686018427387904) : IntKind.i64.wrap n = k := by
  rw [IntWalk.i64_in n (by omega), h]

theorem ret_two {a b c d : Int} (h : a = c) (h' : b = d) : Ending.returned (.tuple #[.int .i64 a, .int .i64 b]) = .returned (.tuple #[.int .i64 c, .int .i64 d]) := by rw [h, h']

set_option maxHeartbeats 1000000 in
set_option maxRecDepth 100000 in
theorem score_any (b : Nat) (vT vl : Value) (ts : List (List Wd)) (l : List Wd) (x : Wd) (w : World) (hT : w.cell? ⟨b, 2, none⟩ = some vT) (hTs : TextsR w vT ts) (hl : Rd w vl (strVals l))
    (hB : bulkT ts ≤ 1099511627776) (hL : l.length ≤ 1099511627776) :
    Calls Tryz.prog 157 #[.pointer (some ⟨b, 0, none⟩), vl, .string ⟨x.toArray⟩] w fun e w' =>
      e = .returned (.tuple #[.int .i64 (scoreL ts l x).1, .int .i64 (scoreL ts l x).2]) ∧ Below w.heap.size w w' := by
  obtain ⟨al, cl, rfl, hcl, hml, hrl⟩ := hl
  rw [strVals_length] at hcl ⊢
  unfold maxLen at hml
  have HRL : Hid (∀ j u, (strVals l)[j]? = some u → ∃ b off, al = some ⟨b, off, none⟩ ∧ w.cell? ⟨b, off + j, none⟩ = some u) := hrl
  clear hrl
  go_enter Tryz.func157, Tryz.ntmps157
  go_upto_if 16 with fail
  go_cut [1, 8] from 13 to 46 (fun s1 s8 wc => s1 = .slice al l.length cl ∧ s8 = .int .i64 l.length ∧ Below w.heap.size w wc ∧ ¬ (1 < l.length ∧ 0 < c3L ts l x))
  case first =>
    by_cases h1 : 1 < l.length
    · obtain ⟨m, hm⟩ : ∃ m, l.length = m + 2 := ⟨l.length - 2, by omega⟩
      obtain ⟨bl, ol, rfl, hA⟩ := HRL.out m _ (strVals_getD l m (by omega))
      obtain ⟨bl', ol', he, hA'⟩ := HRL.out (m + 1) _ (strVals_getD l (m + 1) (by omega))
      simp only [Option.some.injEq, Addr.mk.injEq] at he
      obtain ⟨rfl, rfl, _⟩ := he
      have hc := countL_le ts [l.getD m [], l.getD (m + 1) [], x]
      have HC3 : Hid (c3L ts l x = countL ts [l.getD m [], l.getD (m + 1) [], x]) := by show c3L ts l x = _; unfold c3L; rw [hm]; rfl
      rw [hm] at hcl hL ⊢
      have HM : Hid (l.length = m + 2) := hm
      clear hm h1
      have hj1 : (m : Int) < (m : Int) + 2 := by omega
      have hj2 : (m : Int) + 1 < (m : Int) + 2 := by omega
      have hj3 : (0 : Int) ≤ (m : Int) + 1 := by omega
      have hr0 : IntKind.i64.wrap (m : Int) = (m : Int) := wrapK _ _ rfl (by omega) (by omega)
      have hr3 : IntKind.i64.wrap ((m : Int) + 2 - 1) = (m : Int) + 1 := wrapK _ _ (by omega) (by omega) (by omega)
      obtain ⟨u0, hu0⟩ : ∃ u0, l.getD m [] = u0 := ⟨_, rfl⟩
      obtain ⟨v0, hv0⟩ : ∃ v0, l.getD (m + 1) [] = v0 := ⟨_, rfl⟩
      rw [hu0] at hA hc HC3
      rw [hv0] at hA' hc HC3
      have HU0 : Hid (l.getD m [] = u0) := hu0
      have HV0 : Hid (l.getD (m + 1) [] = v0) := hv0
      clear hu0 hv0
      go_wp2_with fail
      go_region_held (fun w' => w'.cell? ⟨bl, ol + m, none⟩ = some (.string ⟨u0.toArray⟩) ∧ w'.cell? ⟨bl, ol + (m + 1), none⟩ = some (.string ⟨v0.toArray⟩)) (go_keep) (first | (go_at_call 209; refine (count_lit b w.heap.size 3 _ ts [u0, v0, x] w _ hT hTs hB (by exact ((Below.refl _ _).alloc (Nat.le_refl _) _).drew) (by exact cells3) rfl (by decide)).mono ?_; rintro e w' ⟨rfl, nq, rfl⟩))
      by_cases hpos : 0 < countL ts [u0, v0, x]
      · have HF : Hid (scoreL ts l x = (countL ts [u0, v0, x], countL ts [u0, v0])) := by
          show scoreL ts l x = _
          unfold scoreL
          rw [if_pos ⟨by have := HM.out; omega, by rw [HC3.out]; exact hpos⟩, HC3.out, HM.out]
          show (_, countL ts [l.getD m [], l.getD (m + 1) []]) = _
          rw [HU0.out, HV0.out]
        go_wp2_with fail
        have hbW : Below w.heap.size w ((w.alloc (.cells #[.string ⟨u0.toArray⟩, .string ⟨v0.toArray⟩, .string ⟨x.toArray⟩] 9)).drewN (1 + nq)) := below_drewN ((Below.refl _ _).alloc (Nat.le_refl _) _) _
        generalize (w.alloc (.cells #[.string ⟨u0.toArray⟩, .string ⟨v0.toArray⟩, .string ⟨x.toArray⟩] 9)).drewN (1 + nq) = W1 at *
        have hA1 := cell_later hbW hA
        have hA2 := cell_later hbW hA'
        have hzW := hbW.size
        go_region_held (fun w' => w'.cell? ⟨bl, ol + m, none⟩ = some (.string ⟨u0.toArray⟩) ∧ w'.cell? ⟨bl, ol + (m + 1), none⟩ = some (.string ⟨v0.toArray⟩)) (go_keep) (first | (go_at_call 209; refine (count_lit b W1.heap.size 2 _ ts [u0, v0] w _ hT hTs hB (by exact (hbW.alloc hzW _).drew) (by exact cells2) rfl (by decide)).mono ?_; rintro e w' ⟨rfl, nq2, rfl⟩))
        go_wp2
        go_ret2
        exact ⟨ret_two (by rw [HF.out]) (by rw [HF.out]), below_drewN (hbW.alloc hzW _) _⟩
      · go_wp2_with fail
        go_meet
        case rel => exact ⟨by rw [HM.out], by rw [HM.out]; rfl, below_drewN ((Below.refl _ _).alloc (Nat.le_refl _) _) _, fun h => hpos (by rw [← HC3.out]; exact h.2)⟩
    · go_wp2_with fail
      go_meet
      case rel => exact ⟨rfl, rfl, Below.refl _ _, fun h => h1 h.1⟩
  case rest =>
    obtain ⟨rfl, rfl, hbC, hno⟩ := hcut
    have HNO : Hid (¬ (1 < l.length ∧ 0 < c3L ts l x)) := hno
    clear hno
    have hzC := hbC.size
    go_upto_if 48 with fail
    go_cut [1, 8] from 13 to 70 (fun s1 s8 wc => s1 = .slice al l.length cl ∧ s8 = .int .i64 l.length ∧ Below w.heap.size w wc ∧ ¬ (0 < l.length ∧ 0 < c2L ts l x))
    case first =>
      by_cases h1 : 0 < l.length
      · obtain ⟨m, hm⟩ : ∃ m, l.length = m + 1 := ⟨l.length - 1, by omega⟩
        obtain ⟨bl, ol, rfl, hA⟩ := HRL.out m _ (strVals_getD l m (by omega))
        have HC2 : Hid (c2L ts l x = countL ts [l.getD m [], x]) := by show c2L ts l x = _; unfold c2L; rw [hm]; rfl
        rw [hm] at hcl hL ⊢
        have HM : Hid (l.length = m + 1) := hm
        clear hm h1
        obtain ⟨v0, hv0⟩ : ∃ v0, l.getD m [] = v0 := ⟨_, rfl⟩
        rw [hv0] at hA HC2
        have HV0 : Hid (l.getD m [] = v0) := hv0
        clear hv0
        have hc := countL_le ts [v0, x]
        have hc1 := countL_le ts [v0]
        have hA1 := cell_later hbC hA
        go_wp2_with fail
        refine (count_lit b wc.heap.size 2 _ ts [v0, x] w _ hT hTs hB (by exact hbC.alloc hzC _) (by exact cells2) rfl (by decide)).mono ?_
        rintro e w' ⟨rfl, nq, rfl⟩
        have hbW : Below w.heap.size w ((wc.alloc (.cells #[.string ⟨v0.toArray⟩, .string ⟨x.toArray⟩] 9)).drewN nq) := below_drewN (hbC.alloc hzC _) _
        generalize (wc.alloc (.cells #[.string ⟨v0.toArray⟩, .string ⟨x.toArray⟩] 9)).drewN nq = W1 at *
        have hA2 := cell_later hbW hA
        have hzW := hbW.size
        by_cases hpos : 0 < countL ts [v0, x]
        · have HF : Hid (scoreL ts l x = (4 * countL ts [v0, x], 10 * countL ts [v0])) := by
            show scoreL ts l x = _
            unfold scoreL
            rw [if_neg HNO.out, if_pos ⟨by have := HM.out; omega, by rw [HC2.out]; exact hpos⟩, HC2.out, HM.out]
            show (_, 10 * countL ts [l.getD m []]) = _
            rw [HV0.out]
          go_wp2_with fail
          refine (count_lit b W1.heap.size 1 _ ts [v0] w _ hT hTs hB (by exact hbW.alloc hzW _) (by exact cells1) rfl (by decide)).mono ?_
          rintro e w' ⟨rfl, nq2, rfl⟩
          go_wp2
          go_ret2
          exact ⟨ret_two (by rw [HF.out]; go_num) (by rw [HF.out]; go_num), below_drewN (hbW.alloc hzW _) _⟩
        · go_wp2_with fail
          go_meet
          case rel => exact ⟨by rw [HM.out], by rw [HM.out]; rfl, hbW, fun h => hpos (by rw [← HC2.out]; exact h.2)⟩
      · go_wp2_with fail
        go_meet
        case rel => exact ⟨rfl, rfl, hbC, fun h => h1 h.1⟩
    case rest =>
      obtain ⟨rfl, rfl, hbD, hno2⟩ := hcut
      have HF : Hid (scoreL ts l x = (16 * countL ts [x], 100 * totalW ts)) := by
        show scoreL ts l x = _
        unfold scoreL
        rw [if_neg HNO.out, if_neg hno2]
      clear hno2 HNO hbC hzC
      have hzD := hbD.size
      have hT1 := cell_later hbD hT
      obtain ⟨vs, hvl, ⟨aT, cT, rfl, hcT, hmT, hrT⟩, hel⟩ := id hTs
      have hTs1 := hTs.below hbD
      rw [hvl] at hT1 hcT
      have hlt0 := length_le_bulkT ts
      have htw := totalW_le ts
      have hcx := countL_le ts [x]
      unfold maxLen at hmT
      have HEL : Hid (∀ i (h : i < ts.length), ∃ u, vs[i]? = some u ∧ Rd w u (strVals ts[i])) := hel
      have HRT : Hid (∀ j u, vs[j]? = some u → ∃ b off, aT = some ⟨b, off, none⟩ ∧ w.cell? ⟨b, off + j, none⟩ = some u) := hrT
      have HTs : Hid (TextsR w (.slice aT vs.length cT) ts) := hTs
      clear hel hrT hvl hTs hTs1
      go_wp2_with fail
      go_loop [11, 12] (fun n i => ∃ k : Nat, k ≤ ts.length ∧ i = .int .i64 k ∧ n = .int .i64 (totalW (ts.take k))) (fun _ i => ts.length - (intOf i).toNat)
      case atStart => exact ⟨0, Nat.zero_le _, rfl, rfl⟩
      case round =>
        obtain ⟨k, hk, rfl, rfl⟩ := hrel
        have hb0 := bulkT_le ts k
        have ht0 := totalW_le (ts.take k)
        by_cases hlt : k < ts.length
        · obtain ⟨u, hu, at', ct, rfl, hct, hmt, hrt⟩ := HEL.out k hlt
          obtain ⟨bT, oT, rfl, hcell⟩ := HRT.out k _ hu
          have hcell1 := cell_later hbD hcell
          have HU : Hid (totalW (ts.take (k + 1)) = totalW (ts.take k) + ts[k].length) := totalW_take ts k hlt
          have hb1 := bulkT_take ts k hlt
          have hb2 := bulkT_le ts (k + 1)
          have hll : totalW (ts.take k) + ts[k].length ≤ 1099511627776 := by omega
          clear hrt hu hb1 hb2 hb0 ht0
          rw [strVals_length] at hcell hct hcell1
          unfold maxLen at hmt
          go_wp2
          go_round
          case rel => exact ⟨k + 1, by omega, by go_num, by rw [HU.out]; go_num⟩
          case measure => simp [intOf]; omega
        · have ek : k = ts.length := by omega
          subst ek
          rw [List.take_of_length_le (Nat.le_refl _)]
          go_wp2_with fail
          refine (count_lit b wc.heap.size 1 _ ts [x] w _ hT HTs.out hB (by exact hbD.alloc hzD _) (by exact cells1) rfl (by decide)).mono ?_
          rintro e w' ⟨rfl, nq2, rfl⟩
          go_wp2
          go_ret2
          exact ⟨ret_two (by rw [HF.out]; go_num) (by rw [HF.out]; go_num), below_drewN (hbD.alloc hzD _) _⟩

end Go.Proofs.YtocbogeoffeolaaGreatDoor
