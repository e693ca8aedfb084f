/-
  WALKS: hintlaw: tells: Suggest.
-/
import Derived.Test.YtocbogeoffeolaaGreatDoorW11
namespace Go.Proofs.YtocbogeoffeolaaGreatDoor
open Go.RowKit

section
variable {pe : World → (Nat → Prop) → Nat → List (List Wd) → Prop}

set_option maxHeartbeats 1000000 in
set_option maxRecDepth 100000 in
theorem tells_sug (hp : ProgOK pe) (w : World) (Fx Fy D : Nat → Prop) (B bx byy : Nat) (va vl vm : Value) (last : Nat) (us : List Value) (ms : List Wd) (vB vS : Value) (ts : List (List Wd)) (W N M K : Int) (S T : ByteArray) (L : Value) (made : Bool)
    (hG : WOk w) (hb : Before pe w Fx Fy D B bx byy va vl vm last us ms vB vS ts) (hS : S.size ≤ maxLen) (hLs : ∃ a n c, L = .slice a n c) (hK0 : -9223372036854775808 ≤ K) (hK1 : K ≤ 9223372036854775807) :
    Calls Tryz.prog 78 #[.pointer (some ⟨B, 0, none⟩), .agg #[.pointer (some ⟨bx, 0, none⟩), .pointer (some ⟨byy, 0, none⟩)], .agg (opV 11 W N M K S T L made)] w fun e w' => e = .returned (.bool true) ∧ After pe w w' Fx Fy D B bx byy va vl vm last us vB vS ts (last + 1) := by
  obtain ⟨aL, nL, cL, rfl⟩ := hLs
  unfold opV
  have HB : Hid (Before pe w Fx Fy D B bx byy va vl vm last us ms vB vS ts) := hb
  have HP : Hid (ProgOK pe) := hp
  have HGw : Hid (WOk w) := hG
  clear hb hp hG
  go_enter Tryz.func78, Tryz.ntmps78
  go_wp2_with fail
  have h0 : Below w.heap.size w ((w.alloc (.cells #[.pointer (some ⟨bx, 0, none⟩), .pointer (some ⟨byy, 0, none⟩)] 122)).alloc (.cells #[.int .i64 11, .int .i64 W, .int .i64 N, .int .i64 M, .int .i64 K, .string S, .string T, .slice aL nL cL, .bool made] 77)) := ((Below.refl _ _).alloc (Nat.le_refl _) _).alloc (by simp) _
  have hc1 : ((w.alloc (.cells #[.pointer (some ⟨bx, 0, none⟩), .pointer (some ⟨byy, 0, none⟩)] 122)).alloc (.cells #[.int .i64 11, .int .i64 W, .int .i64 N, .int .i64 M, .int .i64 K, .string S, .string T, .slice aL nL cL, .bool made] 77)).cell? ⟨w.heap.size, 1, none⟩ = some (.pointer (some ⟨byy, 0, none⟩)) := by
    rw [World.cell?_alloc_past _ _ _ (by simp), World.cell?_alloc_at _ _ _ _ rfl]; rfl
  have hc2 : ((w.alloc (.cells #[.pointer (some ⟨bx, 0, none⟩), .pointer (some ⟨byy, 0, none⟩)] 122)).alloc (.cells #[.int .i64 11, .int .i64 W, .int .i64 N, .int .i64 M, .int .i64 K, .string S, .string T, .slice aL nL cL, .bool made] 77)).cell? ⟨w.heap.size + 1, 5, none⟩ = some (.string S) := by
    rw [World.cell?_alloc_at _ _ _ _ (by simp)]; rfl
  have hc3 : ((w.alloc (.cells #[.pointer (some ⟨bx, 0, none⟩), .pointer (some ⟨byy, 0, none⟩)] 122)).alloc (.cells #[.int .i64 11, .int .i64 W, .int .i64 N, .int .i64 M, .int .i64 K, .string S, .string T, .slice aL nL cL, .bool made] 77)).cell? ⟨w.heap.size + 1, 4, none⟩ = some (.int .i64 K) := by
    rw [World.cell?_alloc_at _ _ _ _ (by simp)]; rfl
  generalize ((w.alloc (.cells #[.pointer (some ⟨bx, 0, none⟩), .pointer (some ⟨byy, 0, none⟩)] 122)).alloc (.cells #[.int .i64 11, .int .i64 W, .int .i64 N, .int .i64 M, .int .i64 K, .string S, .string T, .slice aL nL cL, .bool made] 77)) = w0 at *
  have hz0 := h0.size
  have hx0 : pe w0 Fx bx ts := HP.out.stay HB.out.x h0.size (fun k hk => h0.block k (HP.out.lt HB.out.x k hk))
  have hsl := sugL_len ts S.data.toList K
  refine (HP.out.suggest w0 Fx bx ts S K (HGw.out.below h0) hx0 HB.out.bulk hS hK0 hK1).mono ?_
  rintro e w1 ⟨v1, rfl, hr1, hb1⟩
  have hz1 := hb1.size
  have h01 : Below w.heap.size w w1 := h0.trans (hb1.mono hz0)
  have hy1 : RefT w1 Fy byy vB vS ts := HB.out.y.stay (fun k hk => h01.block k (HB.out.fy k hk))
  have hc11 := cell_later hb1 hc1
  have hc12 := cell_later hb1 hc2
  have hc13 := cell_later hb1 hc3
  have hr1' := owns_mono hr1 hz0
  clear hc1 hc2 hc3 hx0 hr1
  go_wp2_with fail
  refine (refSuggest Fy byy vB vS ts S K w1 hy1 hS HB.out.bulk).mono ?_
  rintro e w2 ⟨v2, rfl, hr2, hb2⟩
  have hz2 := hb2.size
  have h02 : Below w.heap.size w w2 := h01.trans (hb2.mono (by omega))
  have hr1b := owns_below hr1' hb2
  clear hc11 hc12 hc13 hy1 hr1'
  generalize (sugL ts S.data.toList K).1 = outL at *
  generalize (sugL ts S.data.toList K).2 = code at *
  go_wp2_with fail
  refine (same_any v1 v2 outL w2 (Rd.of_owns hr1b) (Rd.of_owns hr2) (by omega)).mono ?_
  rintro e w' ⟨rfl, nq, rfl⟩
  have h03 : Below w.heap.size w (w2.drewN nq) := below_drewN h02 nq
  have hr1c : (w2.drewN nq).ownsRow w.heap.size 9 1 v1 outL.length (strVals outL) := hr1b
  generalize w2.drewN nq = w3 at *
  clear hr1b hr2 h01 h02 hb1 hb2 h0
  have hL3 : Lists w3 D B vl vm us ms := HB.out.lists.stay h03.size (fun k hk => h03.block k (HB.out.lists.dlt k hk)) (fun k hk => h03.block k (HB.out.lists.ol.lt k hk).2) (fun k hk => h03.block k (HB.out.lists.om.lt k hk).2)
  have hB3 : w3.heap[B]? = some (.cells #[va, vl, vm, .int .i64 last] 74 (0, 0)) := by rw [h03.block B HB.out.bz]; exact HB.out.heap
  go_wp2_with fail
  refine (keep_any B D va vl vm v1 us ms last outL.length (strVals outL) w3 hB3 hL3 HB.out.len (owns_mono hr1c (Nat.zero_le _)) (fun k hk hd => ?_) (fun k hk hm => ?_) HB.out.lastB HB.out.usB (by omega)).mono ?_
  · have := (hr1c.lt k hk).1; have := HB.out.lists.dlt k hd; omega
  · have := (hr1c.lt k hk).1; have := (HB.out.lists.om.lt k hm).2; omega
  rintro e w4 ⟨rfl, D', vl', vm', us', ms', hB4, hL4, hl4, hl5, hf4, hD4, hvl4, hvm4⟩
  have HAf : Hid (After pe w w4 Fx Fy D B bx byy va vl vm last us vB vS ts (last + 1)) := after_sug HP.out HB.out.x HB.out.y HB.out.fy HB.out.apart h03 hr1c hB4 hL4 hl4 hl5 hf4 hD4 hvl4 hvm4
  clear hB4 hL4 hl4 hl5 hf4 hD4 hvl4 hvm4 hL3 hB3 hr1c h03
  go_wp2_with fail
  refine (num_any _ _).mono ?_
  rintro e w' ⟨rfl, rfl⟩
  go_wp2
  go_ret
  refine ⟨ret_bool ?_, HAf.out⟩
  simp
end

end Go.Proofs.YtocbogeoffeolaaGreatDoor
