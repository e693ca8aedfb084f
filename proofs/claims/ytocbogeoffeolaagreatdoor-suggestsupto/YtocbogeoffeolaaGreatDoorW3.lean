/-
  WALKS: the document's own answer: count.
-/
import Derived.Test.YtocbogeoffeolaaGreatDoorW2
import Derived.Test.YtocbogeoffeolaaGreatDoorRd
import Derived.Deep.QuietTactic
import Derived.BigQuiet
import Derived.Deep.Light
namespace Go.Proofs.YtocbogeoffeolaaGreatDoor
open Go.RowKit

set_option maxHeartbeats 1000000 in
set_option maxRecDepth 100000 in
theorem count_any (b : Nat) (vT v : Value) (ts : List (List Wd)) (ws : List Wd) (w : World) (hT : w.cell? ⟨b, 2, none⟩ = some vT) (hTs : TextsR w vT ts) (hv : Rd w v (strVals ws))
    (hB : bulkT ts ≤ 1099511627776) (hW : ws.length ≤ 3) :
    Calls Tryz.prog 209 #[.pointer (some ⟨b, 0, none⟩), v] w fun e w' => e = .returned (.int .i64 (countL ts ws)) ∧ ∃ n, w' = w.drewN n := by
  obtain ⟨vs, hvl, ⟨aT, cT, rfl, hcT, hmT, hrT⟩, hel⟩ := hTs
  obtain ⟨aw, cw, rfl, hcw, hmw, hrw⟩ := hv
  rw [strVals_length] at hcw ⊢
  rw [hvl] at hT hcT
  have hlt0 := length_le_bulkT ts
  unfold maxLen at hmT hmw
  have HEL : Hid (∀ i (h : i < ts.length), ∃ u, vs[i]? = some u ∧ Rd w u (strVals ts[i])) := hel
  have HRT : Hid (∀ j u, vs[j]? = some u → ∃ b off, aT = some ⟨b, off, none⟩ ∧ w.cell? ⟨b, off + j, none⟩ = some u) := hrT
  have HRW : Hid (∀ j u, (strVals ws)[j]? = some u → ∃ b off, aw = some ⟨b, off, none⟩ ∧ w.cell? ⟨b, off + j, none⟩ = some u) := hrw
  clear hel hrT hrw hvl
  go_enter Tryz.func209, Tryz.ntmps209
  go_wp2
  go_loopw [5, 6] (fun n i wr => ∃ k m : Nat, k ≤ ts.length ∧ i = .int .i64 k ∧ n = .int .i64 (countL (ts.take k) ws) ∧ wr = w.drewN m) (fun _ i _ => ts.length - (intOf i).toNat)
  case atStart => exact ⟨0, 0, Nat.zero_le _, rfl, rfl, rfl⟩
  case round =>
    obtain ⟨k, m, hk, rfl, rfl, rfl⟩ := hrel
    have hc0 := countL_le (ts.take k) ws
    have hb0 := bulkT_le ts k
    by_cases hlt : k < ts.length
    · obtain ⟨u, hu, at', ct, rfl, hct, hmt, hrt⟩ := HEL.out k hlt
      obtain ⟨bT, oT, rfl, hcell⟩ := HRT.out k _ hu
      have HRt : Hid (∀ j u, (strVals ts[k])[j]? = some u → ∃ b off, at' = some ⟨b, off, none⟩ ∧ w.cell? ⟨b, off + j, none⟩ = some u) := hrt
      have HU : Hid (countL (ts.take (k + 1)) ws = countL (ts.take k) ws + countIn ts[k] ws) := countL_take ts ws k hlt
      have hb1 := bulkT_take ts k hlt
      have hb2 := bulkT_le ts (k + 1)
      have hll : ts[k].length ≤ 1099511627776 := by have := len_le_bulkT ts k hlt; omega
      have hcc : countL (ts.take k) ws + (ts[k].length + 1) ≤ 1099511627776 := by omega
      clear hrt hu hb1 hb2 hb0 hc0
      rw [strVals_length] at hcell hct
      unfold maxLen at hmt
      go_wp2_with fail
      go_loopw [5, 8] (fun n i wr => ∃ q m : Nat, q ≤ ts[k].length + 1 - ws.length ∧ i = .int .i64 q ∧ n = .int .i64 (countL (ts.take k) ws + countInTo ts[k] ws q) ∧ wr = w.drewN m) (fun _ i _ => ts[k].length + 1 - ws.length - (intOf i).toNat)
      case atStart => exact ⟨0, m, Nat.zero_le _, rfl, by simp [countInTo], rfl⟩
      case round =>
        obtain ⟨q, m, hq, rfl, rfl, rfl⟩ := hrel
        have hci := countInTo_le ts[k] ws q
        by_cases hlq : q + ws.length ≤ ts[k].length
        · go_wp2_with fail
          go_loopw [9, 10] (fun s i wr => ∃ j m : Nat, j ≤ ws.length ∧ i = .int .i64 j ∧ s = .bool (sameTo ts[k] ws q j) ∧ wr = w.drewN m) (fun _ i _ => ws.length - (intOf i).toNat)
          case atStart => exact ⟨0, m, Nat.zero_le _, rfl, by rw [sameTo_zero], rfl⟩
          case round =>
            obtain ⟨j, m, hj, rfl, rfl, rfl⟩ := hrel
            by_cases hlj : j < ws.length
            · obtain ⟨bw, ow, rfl, hcw1⟩ := HRW.out j _ (strVals_get ws j hlj)
              obtain ⟨bt, ot, rfl, hct1⟩ := HRt.out (q + j) _ (strVals_get ts[k] (q + j) (by omega))
              have HSs : Hid (sameTo ts[k] ws q (j + 1) = (sameTo ts[k] ws q j && (ts[k][q + j] == ws[j]))) := sameTo_succ ts[k] ws q j (by omega) hlj
              have hx0 : (0 : Int) ≤ (q : Int) + (j : Int) := by omega
              have hx1 : (q : Int) + (j : Int) < (ts[k].length : Int) := by omega
              by_cases hs : sameTo ts[k] ws q j = true
              · rw [hs] at HSs ⊢
                clear hs
                go_wp2_with fail
                go_quiet (fail)
                go_wp2
                go_roundw
                case rel => exact ⟨j + 1, _, by omega, by go_num, by rw [HSs.out]; simp, rfl⟩
                case measure => simp [intOf]; omega
              · have hs' : sameTo ts[k] ws q j = false := by simpa using hs
                rw [hs'] at HSs ⊢
                clear hs hs'
                go_wp2_with fail
                go_quiet (fail)
                go_wp2
                go_roundw
                case rel => exact ⟨j + 1, _, by omega, by go_num, by rw [HSs.out]; simp, rfl⟩
                case measure => simp [intOf]; omega
            · have ej : j = ws.length := by omega
              subst ej
              by_cases hh : hitAt ts[k] ws q = true
              · have HH : Hid (countInTo ts[k] ws (q + 1) = countInTo ts[k] ws q + 1) := countInTo_yes _ _ _ hh
                have hh' : sameTo ts[k] ws q ws.length = true := hh
                rw [hh']
                clear hh hh'
                go_wp2
                go_roundw
                case rel => exact ⟨q + 1, _, by omega, by go_num, by rw [HH.out]; go_num, rfl⟩
                case measure => simp [intOf]; omega
              · have hh1 : hitAt ts[k] ws q = false := by simpa using hh
                have HH : Hid (countInTo ts[k] ws (q + 1) = countInTo ts[k] ws q) := countInTo_no _ _ _ hh1
                have hh' : sameTo ts[k] ws q ws.length = false := hh1
                rw [hh']
                clear hh hh' hh1
                go_wp2
                go_roundw
                case rel => exact ⟨q + 1, _, by omega, by go_num, by rw [HH.out], rfl⟩
                case measure => simp [intOf]; omega
        · have eq : q = ts[k].length + 1 - ws.length := by omega
          subst eq
          go_wp2
          go_roundw
          case rel => exact ⟨k + 1, _, by omega, by go_num, by rw [HU.out]; unfold countIn; go_num, rfl⟩
          case measure => simp [intOf]; omega
    · have ek : k = ts.length := by omega
      subst ek
      go_wp2
      go_ret
      refine ⟨ret_int ?_, _, rfl⟩
      rw [List.take_of_length_le (Nat.le_refl _)]

end Go.Proofs.YtocbogeoffeolaaGreatDoor
