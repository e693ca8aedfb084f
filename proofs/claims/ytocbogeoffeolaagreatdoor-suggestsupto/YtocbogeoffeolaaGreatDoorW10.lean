/-
  WALKS: hintlaw: pick, same, num.
-/
import Derived.Test.YtocbogeoffeolaaGreatDoorW9
import Derived.Test.YtocbogeoffeolaaGreatDoorW8
namespace Go.Proofs.YtocbogeoffeolaaGreatDoor
open Go.RowKit

/-- Which of n things a raw number speaks of. -/
def pickN (c : Int) (n : Nat) : Nat := ((if c < 0 then -(c + 1) else c) % (n : Int)).toNat
theorem pickN_lt (c : Int) (n : Nat) (h : 0 < n) : pickN c n < n := by
  unfold pickN
  have h1 : 0 ≤ (if c < 0 then -(c + 1) else c) % (n : Int) := Int.emod_nonneg _ (by omega)
  have h2 : (if c < 0 then -(c + 1) else c) % (n : Int) < (n : Int) := Int.emod_lt_of_pos _ (by omega)
  omega

set_option maxHeartbeats 400000 in
theorem pick_any (c : Int) (n : Nat) (w : World) (hc0 : -9223372036854775808 ≤ c) (hc1 : c ≤ 9223372036854775807) (hn : 0 < n) (hn2 : n ≤ 1000000) :
    Calls Tryz.prog 75 #[.int .i64 c, .int .i64 n] w fun e w' => e = .returned (.int .i64 (pickN c n)) ∧ w = w' := by
  have hp := pickN_lt c n hn
  have HP : Hid ((pickN c n : Int) = (if c < 0 then -(c + 1) else c) % (n : Int)) := by
    show _ = _
    unfold pickN
    have h1 : 0 ≤ (if c < 0 then -(c + 1) else c) % (n : Int) := Int.emod_nonneg _ (by omega)
    omega
  have hn' : ((n : Int) == 0) = false := by simp; omega
  by_cases hneg : c < 0
  · go_enter Tryz.func75, Tryz.ntmps75
    go_wp2
    go_ret
    refine ⟨ret_int ?_, rfl⟩
    rw [HP.out, if_pos (by omega), ← Int.neg_tmod, Int.tmod_eq_emod_of_nonneg (by omega)]
  · go_enter Tryz.func75, Tryz.ntmps75
    go_wp2
    go_ret
    refine ⟨ret_int ?_, rfl⟩
    rw [HP.out, if_neg (by omega)]

set_option maxHeartbeats 400000 in
theorem num_any (c : Int) (w : World) : Calls Tryz.prog 104 #[.int .i64 c] w fun e w' => e = .returned (.int .i64 c) ∧ w = w' := by
  go_enter Tryz.func104, Tryz.ntmps104
  go_wp2
  go_ret
  exact ⟨rfl, rfl⟩

set_option maxHeartbeats 400000 in
set_option maxRecDepth 100000 in
/-- Two lists that read alike are the same. -/
theorem same_any (va vb : Value) (l : List Wd) (w : World) (ha : Rd w va (strVals l)) (hb : Rd w vb (strVals l)) (_hl : l.length ≤ 1000000) :
    Calls Tryz.prog 112 #[va, vb] w fun e w' => e = .returned (.bool true) ∧ ∃ n, w' = w.drewN n := by
  obtain ⟨aa, ca, rfl, hca, hma, hra⟩ := ha
  obtain ⟨ab, cb, rfl, hcb, hmb, hrb⟩ := hb
  rw [strVals_length] at hca hcb ⊢
  unfold maxLen at hma hmb
  have HA : Hid (∀ j u, (strVals l)[j]? = some u → ∃ b off, aa = some ⟨b, off, none⟩ ∧ w.cell? ⟨b, off + j, none⟩ = some u) := hra
  have HB : Hid (∀ j u, (strVals l)[j]? = some u → ∃ b off, ab = some ⟨b, off, none⟩ ∧ w.cell? ⟨b, off + j, none⟩ = some u) := hrb
  clear hra hrb
  go_enter Tryz.func112, Tryz.ntmps112
  go_wp2
  go_loopw [5] (fun i wr => ∃ k m : Nat, k ≤ l.length ∧ i = .int .i64 k ∧ wr = w.drewN m) (fun i _ => l.length - (intOf i).toNat)
  case atStart => exact ⟨0, 0, Nat.zero_le _, rfl, rfl⟩
  case round =>
    obtain ⟨k, m, hk, rfl, rfl⟩ := hrel
    by_cases hlt : k < l.length
    · obtain ⟨b1, o1, rfl, hc1⟩ := HA.out k _ (strVals_get l k hlt)
      obtain ⟨b2, o2, rfl, hc2⟩ := HB.out k _ (strVals_get l k hlt)
      go_wp2_with fail
      go_quiet (fail)
      go_wp2
      go_roundw
      case rel => exact ⟨k + 1, _, by omega, by go_num, rfl⟩
      case measure => simp [intOf]; omega
    · go_wp2
      go_ret
      exact ⟨rfl, _, rfl⟩

end Go.Proofs.YtocbogeoffeolaaGreatDoor
