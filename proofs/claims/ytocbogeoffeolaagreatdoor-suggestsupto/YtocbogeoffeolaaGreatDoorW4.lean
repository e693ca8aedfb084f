/-
  WALKS: the document's own answer: known.
-/
import Derived.Test.YtocbogeoffeolaaGreatDoorW3
import Derived.Test.YtocbogeoffeolaaGreatDoorKnown
import Derived.Test.YtocbogeoffeolaaGreatDoorApp
namespace Go.Proofs.YtocbogeoffeolaaGreatDoor
open Go.RowKit

set_option maxHeartbeats 1000000 in
set_option maxRecDepth 100000 in
theorem known_any (b : Nat) (vT : Value) (ts : List (List Wd)) (w : World) (hb : b < w.heap.size) (hT : w.cell? ⟨b, 2, none⟩ = some vT) (hTs : TextsR w vT ts)
    (hB : bulkT ts ≤ 1099511627776) :
    Calls Tryz.prog 156 #[.pointer (some ⟨b, 0, none⟩)] w fun e w' => ∃ v, e = .returned v ∧ w'.ownsRow w.heap.size 9 1 v (knownL ts).length (strVals (knownL ts)) ∧ Below w.heap.size w w' := by
  obtain ⟨i0, hi, hz0, hz1, hz2⟩ := info_parts Tryz.info9
  obtain ⟨vs, hvl, ⟨aT, cT, rfl, hcT, hmT, hrT⟩, hel⟩ := hTs
  rw [hvl] at hT hcT
  have hlt0 := length_le_bulkT ts
  unfold maxLen at hmT
  have HEL : Hid (∀ i (h : i < ts.length), ∃ u, vs[i]? = some u ∧ Rd w u (strVals ts[i])) := hel
  have HRT : Hid (∀ j u, vs[j]? = some u → ∃ b off, aT = some ⟨b, off, none⟩ ∧ w.cell? ⟨b, off + j, none⟩ = some u) := hrT
  clear hel hrT hvl
  go_enter Tryz.func156, Tryz.ntmps156
  go_wp2
  go_loopw [3, 4] (fun v i wr => ∃ k : Nat, k ≤ ts.length ∧ i = .int .i64 k ∧ wr.ownsRow w.heap.size 9 1 v (knownL (ts.take k)).length (strVals (knownL (ts.take k))) ∧ Below w.heap.size w wr) (fun _ i _ => ts.length - (intOf i).toNat)
  case atStart => exact ⟨0, Nat.zero_le _, rfl, World.ownsRow_nil _ _ _ _, Below.refl _ _⟩
  case round =>
    obtain ⟨k, hk, rfl, hown, hbel⟩ := hrel
    have hc0 := knownL_len ts k hk
    have hb0 := bulkT_le ts k
    by_cases hlt : k < ts.length
    · obtain ⟨u, hu, at', ct, rfl, hct, hmt, hrt⟩ := HEL.out k hlt
      obtain ⟨bT, oT, rfl, hcell⟩ := HRT.out k _ hu
      have HRt : Hid (∀ j u, (strVals ts[k])[j]? = some u → ∃ b off, at' = some ⟨b, off, none⟩ ∧ w.cell? ⟨b, off + j, none⟩ = some u) := hrt
      have HU : Hid (knownL (ts.take (k + 1)) = knownTo (knownL (ts.take k)) ts[k] ts[k].length) := knownL_succ ts k hlt
      have hb1 := bulkT_take ts k hlt
      have hb2 := bulkT_le ts (k + 1)
      have hll : ts[k].length ≤ 1099511627776 := by have := len_le_bulkT ts k hlt; omega
      have hcc : (knownL (ts.take k)).length + ts[k].length ≤ 1099511627776 := by omega
      clear hrt hu hb1 hb2 hb0 hc0
      rw [strVals_length] at hcell hct
      unfold maxLen at hmt
      have hT1 := (hbel.cell (p := ⟨b, 2, none⟩) hb).trans hT
      go_wp2_with fail
      generalize knownL (ts.take k) = o0 at *
      generalize ts[k] = t at *
      go_loopw [3, 5] (fun v i wr => ∃ q : Nat, q ≤ t.length ∧ i = .int .i64 q ∧ wr.ownsRow w.heap.size 9 1 v (knownTo o0 t q).length (strVals (knownTo o0 t q)) ∧ Below w.heap.size w wr) (fun _ i _ => t.length - (intOf i).toNat)
      case atStart => exact ⟨0, Nat.zero_le _, rfl, hown, hbel⟩
      case round =>
        obtain ⟨q, hq, rfl, hown, hbel⟩ := hrel
        have hkl := knownTo_len o0 t q
        have hT2 := cell_later hbel hT
        have hcell2 := cell_later hbel hcell
        have HS := hbel.size
        by_cases hlq : q < t.length
        · obtain ⟨bt, ot, rfl, hcq⟩ := HRt.out q _ (strVals_get t q hlq)
          have hcq2 := cell_later hbel hcq
          have HU2 : Hid (knownTo o0 t (q + 1) = insW (knownTo o0 t q) t[q]) := knownTo_succ o0 t q hlq
          have hlen : (knownTo o0 t q).length ≤ 1099511627776 := by omega
          generalize knownTo o0 t q = out at *
          generalize t[q] = x at *
          obtain ⟨a3, c3, rfl, hc3, hm3, hr3⟩ := Rd.of_owns hown
          have HR3 : Hid (∀ j u, (strVals out)[j]? = some u → ∃ b off, a3 = some ⟨b, off, none⟩ ∧ wr.cell? ⟨b, off + j, none⟩ = some u) := hr3
          clear hr3
          rw [strVals_length] at hc3 hown ⊢
          have HRd : Hid (Rd wr (.slice a3 out.length c3) (strVals out)) := Rd.of_owns hown
          unfold maxLen at hm3
          go_wp2_with fail
          go_loop [7] (fun i => ∃ p : Nat, i = .int .i64 p ∧ p ≤ out.length ∧ ∀ j (h : j < p) (h' : j < out.length), Op.bytesLess out[j] x = true) (fun i => out.length - (intOf i).toNat)
          case atStart => exact ⟨0, rfl, Nat.zero_le _, fun _ h => by omega⟩
          case round =>
            obtain ⟨p, rfl, hp, hall⟩ := hrel
            have HA : Hid (∀ j (h : j < p) (h' : j < out.length), Op.bytesLess out[j] x = true) := hall
            clear hall
            by_cases hlp : p < out.length
            · obtain ⟨b3, o3, rfl, hc3p⟩ := HR3.out p _ (strVals_get out p hlp)
              by_cases hless : Op.bytesLess out[p] x = true
              · go_wp2
                go_round
                case rel => exact ⟨p + 1, by go_num, by omega, fun j h h' => by
                  by_cases e : j = p
                  · subst e; exact hless
                  · exact HA.out j (by omega) h'⟩
                case measure => simp [intOf]; omega
              · have hl0 : Op.bytesLess out[p] x = false := by simpa using hless
                clear hless
                have HAt : Hid (atOf out x = p) := atOf_eq out x p hp (fun j h => HA.out j h (by omega)) (fun _ => hl0)
                by_cases hx : out[p] = x
                · have hx' : (out[p] == x) = true := by simpa using hx
                  have HI : Hid (insW out x = out) := by show insW out x = out; unfold insW; rw [HAt.out, if_pos (by rw [List.getElem?_eq_getElem hlp, hx])]
                  clear hx
                  go_wp2_with fail
                  go_roundw
                  case rel => exact ⟨q + 1, by omega, by go_num, by rw [HU2.out, HI.out]; exact hown, hbel⟩
                  case measure => simp [intOf]; omega
                · have hx' : (out[p] == x) = false := by simpa using hx
                  have HI : Hid (insW out x = out.take p ++ ([x] ++ out.drop p)) := by show insW out x = _; unfold insW; rw [HAt.out, if_neg (by rw [List.getElem?_eq_getElem hlp]; simpa using hx)]
                  clear hx
                  go_wp2_with (at_builtin; go_must (refine wpList_append_rd _ rfl _ _ 31 rfl wr.heap.size 9 i0 (.string ⟨#[]⟩) 16 Tryz.underlying31 hi hz0 hz1 hz2 rfl _ _ _ rfl (World.ownsRow_nil _ _ _ _) _ (strVals (out.take p)) rfl ?c0 strVals_one ?c1 ?c2 ?c3 ?_))
                  case c0 => exact HRd.out.take_str p hp
                  case c1 => rw [strVals_length]; simp; omega
                  case c2 => rw [strVals_length]; simp [maxLen]; omega
                  intro v1 w1 hown1 hg1
                  have hl1 : (strVals (out.take p)).length = p := by rw [strVals_length]; simp; omega
                  simp only [hl1] at hown1
                  have hB1 : Below wr.heap.size wr w1 := (Below.refl _ _).grown hg1 (Nat.le_refl _) (by simp [Value.ownBlock])
                  have hz1' := hB1.size
                  clear hl1
                  go_wp2_with (at_builtin; go_must (refine wpList_append_one _ rfl _ _ 31 rfl wr.heap.size 9 i0 (.string ⟨#[]⟩) 16 Tryz.underlying31 hi hz0 hz1 hz2 rfl _ _ _ rfl (hown1.alloc _) ⟨w1.heap.size, 0, none⟩ _ rfl cell_new rfl ?d1 ?d2 ?d3 ?_))
                  case d1 => omega
                  case d2 => unfold maxLen; omega
                  case d3 => first | omega | (simp; omega)
                  intro v2 w2 hown2 hg2 _
                  have hB2 : Below wr.heap.size wr w2 := (hB1.alloc hz1' _).grown hg2 (by simp; omega) (fun b hb => (hown1.lt b hb).1)
                  have hz2' := hB2.size
                  go_wp2_with (at_builtin; go_must (refine wpList_append_rd _ rfl _ _ 31 rfl wr.heap.size 9 i0 (.string ⟨#[]⟩) 16 Tryz.underlying31 hi hz0 hz1 hz2 rfl _ _ _ rfl hown2 _ (strVals (out.drop p)) rfl ?e0 strVals_one ?e1 ?e2 ?e3 ?_))
                  case e0 => go_light; simp only [Act.eval, Array.getD_eq_getD_getElem?]; exact (HRd.out.below hB2).drop_str_lt p hlp hc3 rfl
                  case e1 => rw [strVals_length]; simp; omega
                  case e2 => rw [strVals_length]; simp [maxLen]; omega
                  case e3 => omega
                  intro v3 w3 hown3 hg3
                  have hl3 : p + 1 + (strVals (out.drop p)).length = (insW out x).length := by rw [HI.out, strVals_length]; simp; omega
                  have hx3 : strVals (out.take p) ++ .string ⟨x.toArray⟩ :: strVals (out.drop p) = strVals (insW out x) := by rw [HI.out]; simp [strVals]
                  rw [hl3, hx3, ← HU2.out] at hown3
                  have hB3 : Below wr.heap.size wr w3 := hB2.grown hg3 hz2' (fun b hb => (hown2.lt b hb).1)
                  clear hl3 hx3
                  go_wp2
                  go_roundw
                  case rel => exact ⟨q + 1, by omega, by go_num, owns_mono hown3 HS, hbel.trans (hB3.mono HS)⟩
                  case measure => simp [intOf]; omega
            · have ep : p = out.length := by omega
              have HAt : Hid (atOf out x = p) := atOf_eq out x p hp (fun j h => HA.out j h (by omega)) (fun h => by omega)
              have HI : Hid (insW out x = out.take p ++ ([x] ++ out.drop p)) := by show insW out x = _; unfold insW; rw [HAt.out, if_neg (by simp [ep])]
              have HEp : Hid (p = out.length) := ep
              clear ep
              rcases Decidable.em (p = c3) with hcp | hcp
              rotate_left
              · have hcp' : ¬ c3 = p := fun h => hcp h.symm
                clear hcp
                go_wp2_with (at_builtin; go_must (refine wpList_append_rd _ rfl _ _ 31 rfl wr.heap.size 9 i0 (.string ⟨#[]⟩) 16 Tryz.underlying31 hi hz0 hz1 hz2 rfl _ _ _ rfl (World.ownsRow_nil _ _ _ _) _ (strVals (out.take p)) rfl ?p0 strVals_one ?p1 ?p2 ?p3 ?_))
                case p0 => exact HRd.out.take_str p hp
                case p1 => rw [strVals_length]; simp; omega
                case p2 => rw [strVals_length]; simp [maxLen]; omega
                intro v1 w1 hown1 hg1
                have hl1 : (strVals (out.take p)).length = p := by rw [strVals_length]; simp; omega
                simp only [hl1] at hown1
                have hB1 : Below wr.heap.size wr w1 := (Below.refl _ _).grown hg1 (Nat.le_refl _) (by simp [Value.ownBlock])
                have hz1' := hB1.size
                clear hl1
                go_wp2_with (at_builtin; go_must (refine wpList_append_one _ rfl _ _ 31 rfl wr.heap.size 9 i0 (.string ⟨#[]⟩) 16 Tryz.underlying31 hi hz0 hz1 hz2 rfl _ _ _ rfl (hown1.alloc _) ⟨w1.heap.size, 0, none⟩ _ rfl cell_new rfl ?q1 ?q2 ?q3 ?_))
                case q1 => omega
                case q2 => unfold maxLen; omega
                case q3 => first | omega | (simp; omega)
                intro v2 w2 hown2 hg2 _
                have hB2 : Below wr.heap.size wr w2 := (hB1.alloc hz1' _).grown hg2 (by simp; omega) (fun b hb => (hown1.lt b hb).1)
                have hz2' := hB2.size
                go_wp2_with (at_builtin; go_must (refine wpList_append_rd _ rfl _ _ 31 rfl wr.heap.size 9 i0 (.string ⟨#[]⟩) 16 Tryz.underlying31 hi hz0 hz1 hz2 rfl _ _ _ rfl hown2 _ [] rfl ?r0 (by simp) ?r1 ?r2 ?r3 ?_))
                case r0 => go_light; simp only [Act.eval, Array.getD_eq_getD_getElem?]; exact Rd.empty' (by have := HEp.out; omega) (by unfold maxLen; omega)
                case r1 => simp; omega
                case r2 => simp [maxLen]; omega
                case r3 => omega
                intro v3 w3 hown3 hg3
                have hl3 : p + 1 = (insW out x).length := by rw [HI.out]; simp; have := HEp.out; omega
                have hx3 : strVals (out.take p) ++ [.string ⟨x.toArray⟩] = strVals (insW out x) := by rw [HI.out, HEp.out]; simp [strVals]
                rw [hl3, hx3, ← HU2.out] at hown3
                have hB3 : Below wr.heap.size wr w3 := hB2.grown hg3 hz2' (fun b hb => (hown2.lt b hb).1)
                clear hl3 hx3
                go_wp2
                go_roundw
                case rel => exact ⟨q + 1, by omega, by go_num, owns_mono hown3 HS, hbel.trans (hB3.mono HS)⟩
                case measure => simp [intOf]; omega
              · subst hcp
                go_wp2_with (at_builtin; go_must (refine wpList_append_rd _ rfl _ _ 31 rfl wr.heap.size 9 i0 (.string ⟨#[]⟩) 16 Tryz.underlying31 hi hz0 hz1 hz2 rfl _ _ _ rfl (World.ownsRow_nil _ _ _ _) _ (strVals (out.take p)) rfl ?s0 strVals_one ?s1 ?s2 ?s3 ?_))
                case s0 => exact HRd.out.take_str p hp
                case s1 => rw [strVals_length]; simp; omega
                case s2 => rw [strVals_length]; simp [maxLen]; omega
                intro v1 w1 hown1 hg1
                have hl1 : (strVals (out.take p)).length = p := by rw [strVals_length]; simp; omega
                simp only [hl1] at hown1
                have hB1 : Below wr.heap.size wr w1 := (Below.refl _ _).grown hg1 (Nat.le_refl _) (by simp [Value.ownBlock])
                have hz1' := hB1.size
                clear hl1
                go_wp2_with (at_builtin; go_must (refine wpList_append_one _ rfl _ _ 31 rfl wr.heap.size 9 i0 (.string ⟨#[]⟩) 16 Tryz.underlying31 hi hz0 hz1 hz2 rfl _ _ _ rfl (hown1.alloc _) ⟨w1.heap.size, 0, none⟩ _ rfl cell_new rfl ?t1 ?t2 ?t3 ?_))
                case t1 => omega
                case t2 => unfold maxLen; omega
                case t3 => first | omega | (simp; omega)
                intro v2 w2 hown2 hg2 _
                have hB2 : Below wr.heap.size wr w2 := (hB1.alloc hz1' _).grown hg2 (by simp; omega) (fun b hb => (hown1.lt b hb).1)
                have hz2' := hB2.size
                go_wp2_with (at_builtin; go_must (refine wpList_append_rd _ rfl _ _ 31 rfl wr.heap.size 9 i0 (.string ⟨#[]⟩) 16 Tryz.underlying31 hi hz0 hz1 hz2 rfl _ _ _ rfl hown2 _ [] rfl ?v0 (by simp) ?v1 ?v2 ?v3 ?_))
                case v0 => go_light; simp only [Act.eval, Array.getD_eq_getD_getElem?]; exact Rd.empty' (by have := HEp.out; omega) (by unfold maxLen; omega)
                case v1 => simp; omega
                case v2 => simp [maxLen]; omega
                case v3 => omega
                intro v3 w3 hown3 hg3
                have hl3 : p + 1 = (insW out x).length := by rw [HI.out]; simp; have := HEp.out; omega
                have hx3 : strVals (out.take p) ++ [.string ⟨x.toArray⟩] = strVals (insW out x) := by rw [HI.out, HEp.out]; simp [strVals]
                rw [hl3, hx3, ← HU2.out] at hown3
                have hB3 : Below wr.heap.size wr w3 := hB2.grown hg3 hz2' (fun b hb => (hown2.lt b hb).1)
                clear hl3 hx3
                go_wp2
                go_roundw
                case rel => exact ⟨q + 1, by omega, by go_num, owns_mono hown3 HS, hbel.trans (hB3.mono HS)⟩
                case measure => simp [intOf]; omega
        · have eq : q = t.length := by omega
          subst eq
          go_wp2
          go_roundw
          case rel => exact ⟨k + 1, by omega, by go_num, by rw [HU.out]; exact hown, hbel⟩
          case measure => simp [intOf]; omega
    · have ek : k = ts.length := by omega
      subst ek
      have hT1 := (hbel.cell (p := ⟨b, 2, none⟩) hb).trans hT
      rw [List.take_of_length_le (Nat.le_refl _)] at hown
      go_wp2
      go_ret
      exact ⟨_, rfl, hown, hbel⟩

end Go.Proofs.YtocbogeoffeolaaGreatDoor
