/-
  WALKS: the document's own answer: byNames.
  WALKS: the document's own answer: Merge.
  WALKS: the document's own answer: isNode.
  WALKS: the document's own answer: the tape: take, number.
  WALKS: the document's own answer: the tape: number.
  THE TAPE IN THE READER'S WORDS (plain): number, piece; what a bad tape gives.
  THE TAPE'S TREE (plain): entries, children, a node, in the tape's own words; that they are tpEnts, tpKids, tpTree.
  WALKS: the document's own answer: the tape with what it has told: take and number over it; how much may yet be told.
  WALKS: the document's own answer: the tape's tree (plain: room; begun: the walk).
  THE TAPE'S SEGMENT (plain): gone names ahead of the tree, in the tape's own words; that they are tpSeg.
-/
import Derived.Test.YtocbogeoffeolaaGreatDoorSegAA
import Derived.Test.YtocbogeoffeolaaGreatDoorSegAD
import Derived.Test.YtocbogeoffeolaaGreatDoorSegAE
import Derived.Deep.RegionHeld
import Derived.Deep.QuietTactic
import Derived.BigQuiet
namespace Go.Proofs.YtocbogeoffeolaaGreatDoor
open Go.RowKit

theorem below_dn {B : Nat} {a w : World} (h : Below B a w) (q : Nat) : Below B a (w.drewN q) := ⟨h.os, h.tape, h.output, h.size, h.block⟩

def sortTo (l : List Ent) (k : Nat) : List Ent := sortN (l.take k)
theorem sortTo_succ (l : List Ent) (k : Nat) (h : k < l.length) : sortTo l (k + 1) = insN (sortTo l k) l[k] := by
  unfold sortTo sortN
  rw [List.take_succ_eq_append_getElem h, List.foldl_append]; rfl
theorem sortTo_len (l : List Ent) (k : Nat) (h : k ≤ l.length) : (sortTo l k).length = k := by
  unfold sortTo; rw [sortN_len]; simp; omega
theorem insN_at (out : List Ent) (x : Ent) (p : Nat) (hp : p ≤ out.length) (h1 : ∀ j (h : j < p), nmB (out[j]'(by omega)) x = true) (h2 : ∀ h : p < out.length, nmB out[p] x = false) : insN out x = out.take p ++ ([x] ++ out.drop p) := by
  have hl := takeWhile_len (fun y => nmB y x) out p hp h1 h2
  have hc := List.takeWhile_append_dropWhile (p := fun y => nmB y x) (l := out)
  have e1 : out.take p = out.takeWhile fun y => nmB y x := by
    conv => lhs; rw [← hc, ← hl]
    rw [List.take_left]
  have e2 : out.drop p = out.dropWhile fun y => nmB y x := by
    conv => lhs; rw [← hc, ← hl]
    rw [List.drop_left]
  rw [e1, e2]
  rfl

set_option maxHeartbeats 1000000 in
set_option maxRecDepth 100000 in
theorem byNames_any (v : Value) (l : List Ent) (w : World) (hv : RdW w 5 v l.length (entVals l)) (hl : l.length ≤ 1073741824) :
    Calls Tryz.prog 148 #[v] w fun e w' => ∃ u, e = .returned u ∧ w'.ownsRow w.heap.size 202 5 u (sortN l).length (entVals (sortN l)) ∧ Below w.heap.size w w' := by
  obtain ⟨i5, hi5, hz0, hz1, hz2⟩ := info_parts Tryz.infoEnt
  obtain ⟨a, cap, rfl, hc, hm, _, _⟩ := id hv
  have HV : Hid (RdW w 5 (.slice a l.length cap) l.length (entVals l)) := hv
  clear hv
  unfold maxLen at hm
  go_enter Tryz.func148, Tryz.ntmps148
  go_wp2
  go_loopw [3, 4] (fun v i wr => ∃ k : Nat, k ≤ l.length ∧ i = .int .i64 k ∧ wr.ownsRow w.heap.size 202 5 v (sortTo l k).length (entVals (sortTo l k)) ∧ Below w.heap.size w wr) (fun _ i _ => l.length - (intOf i).toNat)
  case atStart => exact ⟨0, Nat.zero_le _, rfl, World.ownsRow_nil _ _ _ _, Below.refl _ _⟩
  case round =>
    obtain ⟨k, hk, rfl, hown, hbel⟩ := hrel
    have HS := hbel.size
    have hlen := Nat.le_of_eq (sortTo_len l k hk)
    by_cases hlt : k < l.length
    · obtain ⟨bl, ol, rfl, c0, c1, c2, c3, c4⟩ := ent_cells (HV.out.below hbel) k hlt
      have HU : Hid (sortTo l (k + 1) = insN (sortTo l k) l[k]) := sortTo_succ l k hlt
      generalize sortTo l k = out at *
      generalize l[k] = x at *
      obtain ⟨a3, c3', rfl, hc3, hm3, _, _⟩ := RdW.of_owns hown
      have HRd : Hid (RdW wr 5 (.slice a3 out.length c3') out.length (entVals out)) := RdW.of_owns hown
      unfold maxLen at hm3
      go_wp2_with fail
      generalize wr = wo at *
      go_loopw [5] (fun i w9 => ∃ p : Nat, i = .int .i64 p ∧ p ≤ out.length ∧ (∀ j (h : j < p) (h' : j < out.length), nmB out[j] x = true) ∧ Below wo.heap.size wo w9) (fun i _ => out.length - (intOf i).toNat)
      case atStart => exact ⟨0, rfl, Nat.zero_le _, fun _ h => by omega, Below.refl _ _⟩
      case round =>
        obtain ⟨p, rfl, hp, hall, hB9⟩ := hrel
        have hz9 := hB9.size
        have HA : Hid (∀ j (h : j < p) (h' : j < out.length), nmB out[j] x = true) := hall
        clear hall
        by_cases hlp : p < out.length
        · obtain ⟨b3, o3, rfl, d0, _, _, _, _⟩ := ent_cells (HRd.out.below hB9) p hlp
          have g0 := cell_later hB9 c0
          have hpi : (p : Int) < (out.length : Int) := by omega
          have hki : (k : Int) < (l.length : Int) := by omega
          by_cases hless : nmB out[p] x = true
          · have hless' : Op.bytesLess out[p].name x.name = true := hless
            go_wp2
            go_quiet (fail)
            go_wp2
            go_roundw
            case rel => exact ⟨p + 1, by go_num, by omega, fun j h h' => by
              by_cases e : j = p
              · subst e; exact hless
              · exact HA.out j (by omega) h', below_dn hB9 _⟩
            case measure => simp [intOf]; omega
          · have hl0 : Op.bytesLess out[p].name x.name = false := by simpa [nmB] using hless
            have HI : Hid (insN out x = out.take p ++ ([x] ++ out.drop p)) := insN_at out x p hp (fun j h => HA.out j h (by omega)) (fun _ => hl0)
            clear hless
            go_wp2
            go_quiet (fail)
            have hBX := below_dn hB9 nq
            go_wp2_with (at_builtin; go_must (refine wpList_append_w _ rfl _ _ 75 rfl wo.heap.size 202 i5 _ 5 56 Tryz.underlying75 hi5 hz0 hz1 hz2 rfl (by decide) _ _ _ rfl (World.ownsRow_nil _ _ _ _) _ p (entVals (out.take p)) rfl ?ac0 entVals_one ?ac1 ?ac2 ?ac3 ?_))
            case ac0 => have := (HRd.out.below hBX).take p hp; rw [← entVals_take] at this; exact this
            case ac1 => omega
            case ac2 => simp only [maxLen]; omega
            case ac3 => exact hBX.size
            intro v1 w1 hown1 hg1 _
            try simp only [Nat.zero_add, List.nil_append] at hown1
            have hB1 : Below wo.heap.size wo w1 := hBX.grown hg1 hBX.size (by simp [Value.ownBlock])
            have hz1' := hB1.size
            obtain ⟨aw1, cw1, rfl, _⟩ := owns_slice_wide hown1
            have q0 := cell_later hB1 c0
            have q1 := cell_later hB1 c1
            have q2 := cell_later hB1 c2
            have q3 := cell_later hB1 c3
            have q4 := cell_later hB1 c4
            go_wp2_with (at_builtin; go_must (refine wpList_append_w _ rfl _ _ 75 rfl wo.heap.size 202 i5 _ 5 56 Tryz.underlying75 hi5 hz0 hz1 hz2 rfl (by decide) _ _ _ rfl (hown1.alloc _) _ 1 (entCells x) rfl ?ad0 ?ad9 ?ad1 ?ad2 ?ad3 ?_))
            case ad0 => go_light; exact RdW.one_ent (w := w1) (b := w1.heap.size) (e := x) (t := 202) rfl
            case ad9 => intro u hu; exact entVals_one (es := [x]) u (by simpa [entVals] using hu)
            case ad1 => omega
            case ad2 => simp only [maxLen]; omega
            case ad3 => simp; omega
            intro v2 w2 hown2 hg2 _
            have hB2 : Below wo.heap.size wo w2 := (hB1.alloc hz1' _).grown hg2 (by simp; omega) (fun b hb => (hown1.lt b hb).1)
            have hz2' := hB2.size
            obtain ⟨aw2, cw2, rfl, _⟩ := owns_slice_wide hown2
            go_wp2_with (at_builtin; go_must (refine wpList_append_w _ rfl _ _ 75 rfl wo.heap.size 202 i5 _ 5 56 Tryz.underlying75 hi5 hz0 hz1 hz2 rfl (by decide) _ _ _ rfl hown2 _ (out.length - p) (entVals (out.drop p)) rfl ?ae0 entVals_one ?ae1 ?ae2 ?ae3 ?_))
            case ae0 => go_light; simp only [Act.eval, Array.getD_eq_getD_getElem?]; have := (HRd.out.below hB2).drop_lt p hp; rw [← entVals_drop] at this; exact this
            case ae1 => omega
            case ae2 => simp only [maxLen]; omega
            case ae3 => omega
            intro v3 w3 hown3 hg3 _
            have hl3 : p + 1 + (out.length - p) = (insN out x).length := by rw [HI.out]; simp; omega
            have hx3 : entVals (out.take p) ++ (entCells x ++ entVals (out.drop p)) = entVals (insN out x) := by rw [HI.out]; simp [entVals]
            rw [hl3, hx3, ← HU.out] at hown3
            have hB3 : Below wo.heap.size wo w3 := hB2.grown hg3 hz2' (fun b hb => (hown2.lt b hb).1)
            clear hl3 hx3
            go_wp2
            go_roundw
            case rel => exact ⟨k + 1, by omega, by go_num, owns_mono hown3 HS, hbel.trans (hB3.mono HS)⟩
            case measure => simp [intOf]; omega
        · have ep : p = out.length := by omega
          have g0 := cell_later hB9 c0
          have HI : Hid (insN out x = out.take p ++ ([x] ++ out.drop p)) := insN_at out x p hp (fun j h => HA.out j h (by omega)) (fun h => by omega)
          have HEp : Hid (p = out.length) := ep
          clear ep
          rcases Decidable.em (p = c3') with hcp | hcp
          rotate_left
          · have hcp' : ¬ c3' = p := fun h => hcp h.symm
            clear hcp
            go_wp2
            go_quiet (fail)
            have hBX := below_dn hB9 nq
            go_wp2_with (at_builtin; go_must (refine wpList_append_w _ rfl _ _ 75 rfl wo.heap.size 202 i5 _ 5 56 Tryz.underlying75 hi5 hz0 hz1 hz2 rfl (by decide) _ _ _ rfl (World.ownsRow_nil _ _ _ _) _ p (entVals (out.take p)) rfl ?bc0 entVals_one ?bc1 ?bc2 ?bc3 ?_))
            case bc0 => have := (HRd.out.below hBX).take p hp; rw [← entVals_take] at this; exact this
            case bc1 => omega
            case bc2 => simp only [maxLen]; omega
            case bc3 => exact hBX.size
            intro v1 w1 hown1 hg1 _
            try simp only [Nat.zero_add, List.nil_append] at hown1
            have hB1 : Below wo.heap.size wo w1 := hBX.grown hg1 hBX.size (by simp [Value.ownBlock])
            have hz1' := hB1.size
            obtain ⟨aw1, cw1, rfl, _⟩ := owns_slice_wide hown1
            have q0 := cell_later hB1 c0
            have q1 := cell_later hB1 c1
            have q2 := cell_later hB1 c2
            have q3 := cell_later hB1 c3
            have q4 := cell_later hB1 c4
            go_wp2_with (at_builtin; go_must (refine wpList_append_w _ rfl _ _ 75 rfl wo.heap.size 202 i5 _ 5 56 Tryz.underlying75 hi5 hz0 hz1 hz2 rfl (by decide) _ _ _ rfl (hown1.alloc _) _ 1 (entCells x) rfl ?bd0 ?bd9 ?bd1 ?bd2 ?bd3 ?_))
            case bd0 => go_light; exact RdW.one_ent (w := w1) (b := w1.heap.size) (e := x) (t := 202) rfl
            case bd9 => intro u hu; exact entVals_one (es := [x]) u (by simpa [entVals] using hu)
            case bd1 => omega
            case bd2 => simp only [maxLen]; omega
            case bd3 => simp; omega
            intro v2 w2 hown2 hg2 _
            have hB2 : Below wo.heap.size wo w2 := (hB1.alloc hz1' _).grown hg2 (by simp; omega) (fun b hb => (hown1.lt b hb).1)
            have hz2' := hB2.size
            obtain ⟨aw2, cw2, rfl, _⟩ := owns_slice_wide hown2
            go_wp2_with (at_builtin; go_must (refine wpList_append_w _ rfl _ _ 75 rfl wo.heap.size 202 i5 _ 5 56 Tryz.underlying75 hi5 hz0 hz1 hz2 rfl (by decide) _ _ _ rfl hown2 _ (out.length - p) (entVals (out.drop p)) rfl ?be0 entVals_one ?be1 ?be2 ?be3 ?_))
            case be0 => go_light; simp only [Act.eval, Array.getD_eq_getD_getElem?]; rw [List.drop_of_length_le (by omega)]; exact RdW.empty (by omega) (by unfold maxLen; omega)
            case be1 => omega
            case be2 => simp only [maxLen]; omega
            case be3 => omega
            intro v3 w3 hown3 hg3 _
            have hl3 : p + 1 + (out.length - p) = (insN out x).length := by rw [HI.out]; simp; omega
            have hx3 : entVals (out.take p) ++ (entCells x ++ entVals (out.drop p)) = entVals (insN out x) := by rw [HI.out]; simp [entVals]
            rw [hl3, hx3, ← HU.out] at hown3
            have hB3 : Below wo.heap.size wo w3 := hB2.grown hg3 hz2' (fun b hb => (hown2.lt b hb).1)
            clear hl3 hx3
            go_wp2
            go_roundw
            case rel => exact ⟨k + 1, by omega, by go_num, owns_mono hown3 HS, hbel.trans (hB3.mono HS)⟩
            case measure => simp [intOf]; omega
          · subst hcp
            go_wp2
            go_quiet (fail)
            have hBX := below_dn hB9 nq
            go_wp2_with (at_builtin; go_must (refine wpList_append_w _ rfl _ _ 75 rfl wo.heap.size 202 i5 _ 5 56 Tryz.underlying75 hi5 hz0 hz1 hz2 rfl (by decide) _ _ _ rfl (World.ownsRow_nil _ _ _ _) _ p (entVals (out.take p)) rfl ?ec0 entVals_one ?ec1 ?ec2 ?ec3 ?_))
            case ec0 => have := (HRd.out.below hBX).take p hp; rw [← entVals_take] at this; exact this
            case ec1 => omega
            case ec2 => simp only [maxLen]; omega
            case ec3 => exact hBX.size
            intro v1 w1 hown1 hg1 _
            try simp only [Nat.zero_add, List.nil_append] at hown1
            have hB1 : Below wo.heap.size wo w1 := hBX.grown hg1 hBX.size (by simp [Value.ownBlock])
            have hz1' := hB1.size
            obtain ⟨aw1, cw1, rfl, _⟩ := owns_slice_wide hown1
            have q0 := cell_later hB1 c0
            have q1 := cell_later hB1 c1
            have q2 := cell_later hB1 c2
            have q3 := cell_later hB1 c3
            have q4 := cell_later hB1 c4
            go_wp2_with (at_builtin; go_must (refine wpList_append_w _ rfl _ _ 75 rfl wo.heap.size 202 i5 _ 5 56 Tryz.underlying75 hi5 hz0 hz1 hz2 rfl (by decide) _ _ _ rfl (hown1.alloc _) _ 1 (entCells x) rfl ?ed0 ?ed9 ?ed1 ?ed2 ?ed3 ?_))
            case ed0 => go_light; exact RdW.one_ent (w := w1) (b := w1.heap.size) (e := x) (t := 202) rfl
            case ed9 => intro u hu; exact entVals_one (es := [x]) u (by simpa [entVals] using hu)
            case ed1 => omega
            case ed2 => simp only [maxLen]; omega
            case ed3 => simp; omega
            intro v2 w2 hown2 hg2 _
            have hB2 : Below wo.heap.size wo w2 := (hB1.alloc hz1' _).grown hg2 (by simp; omega) (fun b hb => (hown1.lt b hb).1)
            have hz2' := hB2.size
            obtain ⟨aw2, cw2, rfl, _⟩ := owns_slice_wide hown2
            go_wp2_with (at_builtin; go_must (refine wpList_append_w _ rfl _ _ 75 rfl wo.heap.size 202 i5 _ 5 56 Tryz.underlying75 hi5 hz0 hz1 hz2 rfl (by decide) _ _ _ rfl hown2 _ 0 [] rfl ?ee0 (by simp) ?ee1 ?ee2 ?ee3 ?_))
            case ee0 => go_light; simp only [Act.eval, Array.getD_eq_getD_getElem?]; exact RdW.empty rfl (by unfold maxLen; omega)
            case ee1 => omega
            case ee2 => simp only [maxLen]; omega
            case ee3 => omega
            intro v3 w3 hown3 hg3 _
            have hl3 : p + 1 = (insN out x).length := by rw [HI.out]; simp; have := HEp.out; omega
            have hx3 : entVals (out.take p) ++ entCells x = entVals (insN out x) := by rw [HI.out, HEp.out]; simp [entVals]
            try simp only [Nat.add_zero, List.append_nil] at hown3
            rw [hl3, hx3, ← HU.out] at hown3
            have hB3 : Below wo.heap.size wo w3 := hB2.grown hg3 hz2' (fun b hb => (hown2.lt b hb).1)
            clear hl3 hx3
            go_wp2
            go_roundw
            case rel => exact ⟨k + 1, by omega, by go_num, owns_mono hown3 HS, hbel.trans (hB3.mono HS)⟩
            case measure => simp [intOf]; omega
    · have ek : k = l.length := by omega
      subst ek
      go_wp2
      go_ret
      refine ⟨_, rfl, ?_, hbel⟩
      have e : sortN l = sortTo l l.length := by unfold sortTo; rw [List.take_length]
      rw [e]; exact hown

end Go.Proofs.YtocbogeoffeolaaGreatDoor

namespace Go.Proofs.YtocbogeoffeolaaGreatDoor
open Go.RowKit

/-- The segments are written anew: w1: a world in which the new row lies in new memory. -/
theorem ref_segs {w w1 : World} {F : Nat → Prop} {b : Nat} {vB vS vS' vT : Value} {buf : List Ent} {ss' : List (List Ent)} {ts : List (List Wd)} {vs' : List Value} (hF : ∀ k, F k → k < w.heap.size)
    (hh : w.heap[b]? = some (.cells #[vB, vS, vT] 120 (0, 0))) (hFb : F b) (hEB : EntsO w F vB buf) (hT : TextsO w F vT ts) (hb1 : Below w.heap.size w w1)
    (ho : w1.ownsRow w.heap.size 75 1 vS' ss'.length vs') (hvl : vs'.length = ss'.length)
    (hel : ∀ i (h : i < ss'.length), ∃ u, vs'[i]? = some u ∧ EntsO w1 (Grow F w w1) u ss'[i]) :
    w1.heap[b]? = some (.cells #[vB, vS, vT] 120 (0, 0)) ∧ RefE (w1.setCell ⟨b, 1, none⟩ vS') (Grow F w (w1.setCell ⟨b, 1, none⟩ vS')) b buf ss' ts ∧ FrameF F w (w1.setCell ⟨b, 1, none⟩ vS') := by
  have hz1 := hb1.size
  have hbz := hF b hFb
  have hsz : (w1.setCell ⟨b, 1, none⟩ vS').heap.size = w1.heap.size := by simp [World.setCell]
  have hh1 : w1.heap[b]? = some (.cells #[vB, vS, vT] 120 (0, 0)) := by rw [hb1.block b hbz]; exact hh
  have hfar : ∀ k, k ≠ b → (w1.setCell ⟨b, 1, none⟩ vS').heap[k]? = w1.heap[k]? := fun k hk => Below.heap_setCell _ _ _ _ hk
  have hold : ∀ k, F k → k ≠ b → (w1.setCell ⟨b, 1, none⟩ vS').heap[k]? = w.heap[k]? := fun k hk hne => by rw [hfar k hne, hb1.block k (hF k hk)]
  have hGr : ∀ k, Grow F w w1 k → Grow F w (w1.setCell ⟨b, 1, none⟩ vS') k := fun k hk => by
    rcases hk with h | h
    · exact Or.inl h
    · exact Or.inr ⟨h.1, by rw [hsz]; exact h.2⟩
  refine ⟨hh1, ⟨vB, vS', vT, ?_, Or.inl hFb, ⟨?_, fun k hk => Or.inl (hEB.2 k hk)⟩, ⟨vs', hvl, ?_, ?_, ?_⟩, ?_⟩, ?_⟩
  · rw [heap_set hh1]; rfl
  · exact owns_stay_wide hEB.1 (fun k hk => hold k (hEB.2 k hk) (fun e => by subst e; exact blk_ne_wide hh hEB.1 (by decide) hk))
  · refine owns_stay (owns_mono ho (Nat.zero_le _)) (fun k hk => hfar k (fun e => ?_))
    have := (ho.lt k hk).1; omega
  · intro k hk
    have := ho.lt k hk
    exact Or.inr ⟨this.1, by rw [hsz]; exact this.2⟩
  · intro i hi
    obtain ⟨u, hu, hE⟩ := hel i hi
    exact ⟨u, hu, owns_stay_wide hE.1 (fun k hk => hfar k (fun e => by subst e; exact blk_ne_wide hh1 hE.1 (by decide) hk)), fun k hk => hGr k (hE.2 k hk)⟩
  · obtain ⟨vs, h1, h2, h3, h4⟩ := hT
    refine ⟨vs, h1, owns_stay h2 (fun k hk => hold k (h3 k hk) (fun e => by subst e; exact blk_ne hh h2 (by decide) hk)), fun k hk => Or.inl (h3 k hk), fun i hi => ?_⟩
    obtain ⟨v, hv, hE, hf⟩ := h4 i hi
    exact ⟨v, hv, owns_stay hE (fun k hk => hold k (hf k hk) (fun e => by subst e; exact blk_ne hh hE (by decide) hk)), fun k hk => Or.inl (hf k hk)⟩
  · refine ⟨hb1.os, hb1.tape, hb1.output, by rw [hsz]; exact hz1, fun k hk hn => ?_⟩
    rw [hfar k (fun e => hn (by rw [e]; exact hFb)), hb1.block k hk]

def Zip (E : Value → List Ent → Prop) (vs : List Value) (ss : List (List Ent)) : Prop := vs.length = ss.length ∧ ∀ i (h : i < ss.length), ∃ u, vs[i]? = some u ∧ E u ss[i]
theorem Zip.nil (E : Value → List Ent → Prop) : Zip E [] [] := ⟨rfl, fun i h => by simp at h⟩
theorem Zip.one {E : Value → List Ent → Prop} {u : Value} {l : List Ent} (h : E u l) : Zip E [u] [l] := ⟨rfl, fun i hi => by
  have : i = 0 := by simp at hi; omega
  subst this
  exact ⟨u, rfl, h⟩⟩
theorem Zip.append {E : Value → List Ent → Prop} {vs vt : List Value} {ss st : List (List Ent)} (h1 : Zip E vs ss) (h2 : Zip E vt st) : Zip E (vs ++ vt) (ss ++ st) := by
  refine ⟨by rw [List.length_append, List.length_append, h1.1, h2.1], fun i hi => ?_⟩
  by_cases hlt : i < ss.length
  · obtain ⟨u, hu, hE⟩ := h1.2 i hlt
    exact ⟨u, by rw [List.getElem?_append_left (by rw [h1.1]; exact hlt)]; exact hu, by rw [List.getElem_append_left hlt]; exact hE⟩
  · have hi2 : i - ss.length < st.length := by rw [List.length_append] at hi; omega
    obtain ⟨u, hu, hE⟩ := h2.2 (i - ss.length) hi2
    refine ⟨u, ?_, ?_⟩
    · rw [List.getElem?_append_right (by rw [h1.1]; omega), h1.1]; exact hu
    · rw [List.getElem_append_right (by omega)]; exact hE
theorem Zip.take {E : Value → List Ent → Prop} {vs : List Value} {ss : List (List Ent)} (h : Zip E vs ss) (k : Nat) : Zip E (vs.take k) (ss.take k) := by
  refine ⟨by simp [h.1], fun i hi => ?_⟩
  rw [List.length_take] at hi
  obtain ⟨u, hu, hE⟩ := h.2 i (by omega)
  exact ⟨u, by rw [List.getElem?_take, if_pos (by omega)]; exact hu, by rw [List.getElem_take]; exact hE⟩
theorem Zip.drop {E : Value → List Ent → Prop} {vs : List Value} {ss : List (List Ent)} (h : Zip E vs ss) (k : Nat) : Zip E (vs.drop k) (ss.drop k) := by
  refine ⟨by simp [h.1], fun i hi => ?_⟩
  rw [List.length_drop] at hi
  obtain ⟨u, hu, hE⟩ := h.2 (k + i) (by omega)
  exact ⟨u, by rw [List.getElem?_drop]; exact hu, by rw [List.getElem_drop]; exact hE⟩
theorem Zip.mono {E E' : Value → List Ent → Prop} {vs : List Value} {ss : List (List Ent)} (h : Zip E vs ss) (hE : ∀ u l, E u l → E' u l) : Zip E' vs ss := ⟨h.1, fun i hi => by
  obtain ⟨u, hu, hx⟩ := h.2 i hi
  exact ⟨u, hu, hE u _ hx⟩⟩

/-- What a merge says. -/
def merged (ss : List (List Ent)) (n : Nat) : List Ent := if n = 0 then livingL (overL (ss.getD n []) (ss.getD (n + 1) [])) else overL (ss.getD n []) (ss.getD (n + 1) [])
/-- Merge: its answer; the segments behind it. -/
def mergeL (ss : List (List Ent)) (n : Int) : Nat × List (List Ent) :=
  if n < 0 ∨ (ss.length : Int) - 1 ≤ n then (6, ss)
  else if 100 < (merged ss n.toNat).length - (livingL (merged ss n.toNat)).length then (4, ss)
  else (0, ss.take n.toNat ++ ((if 0 < (merged ss n.toNat).length then [merged ss n.toNat] else []) ++ ss.drop (n.toNat + 2)))

set_option maxHeartbeats 1000000 in
set_option maxRecDepth 100000 in
theorem refMerge (F : Nat → Prop) (b : Nat) (buf : List Ent) (ss : List (List Ent)) (ts : List (List Wd)) (n : Int) (w : World) (hF : ∀ k, F k → k < w.heap.size) (hR : RefE w F b buf ss ts)
    (hn0 : -9223372036854775808 ≤ n) (hn1 : n ≤ 9223372036854775807) (h1 : bulkS ss ≤ 536870912) :
    Calls Tryz.prog 107 #[.pointer (some ⟨b, 0, none⟩), .int .i64 n] w fun e w' => e = .returned (.int .i64 (mergeL ss n).1) ∧
      RefE w' (Grow F w w') b buf (mergeL ss n).2 ts ∧ FrameF F w w' := by
  have HR : Hid (RefE w F b buf ss ts) := hR
  obtain ⟨vB, vS, vT, hh, hFb, hEB, hSS, hTT⟩ := id hR
  obtain ⟨vs, hvl, hos, hFS, hel⟩ := id hSS
  obtain ⟨aS, cS, rfl, hcS⟩ := owns_slice hos
  have hbz := hF b hFb
  have hc1 : w.cell? ⟨b, 1, none⟩ = some (.slice aS ss.length cS) := by rw [cell_of_heap hh]; rfl
  have HH : Hid (w.heap[b]? = some (.cells #[vB, .slice aS ss.length cS, vT] 120 (0, 0))) := hh
  have HEB : Hid (EntsO w F vB buf) := hEB
  have HTT : Hid (TextsO w F vT ts) := hTT
  have HOS : Hid (w.ownsRow 0 75 1 (.slice aS ss.length cS) ss.length vs) := hos
  have HEL : Hid (∀ i (h : i < ss.length), ∃ u, vs[i]? = some u ∧ EntsO w F u ss[i]) := hel
  have HZ : Hid (Zip (EntsO w F) vs ss) := ⟨hvl, hel⟩
  have HOne : Hid (∀ u ∈ vs, u.oneCell' = true) := fun u hu => by
    obtain ⟨i, hi, rfl⟩ := List.mem_iff_getElem.1 hu
    obtain ⟨u', hu', hE⟩ := hel i (by omega)
    rw [List.getElem?_eq_getElem hi] at hu'
    simp only [Option.some.injEq] at hu'
    obtain ⟨a, c, e, _⟩ := owns_slice_wide hE.1
    rw [hu', e]; rfl
  obtain ⟨i8, hi8, hy0, hy1, hy2⟩ := info_parts Tryz.infoLe
  have hssl := bulkS_len ss
  clear hR hh hEB hTT hSS hos hel
  by_cases hneg : n < 0
  · have HU : Hid (mergeL ss n = (6, ss)) := by show mergeL _ _ = _; unfold mergeL; rw [if_pos (Or.inl hneg)]
    go_enter Tryz.func107, Tryz.ntmps107
    go_wp2
    go_ret
    refine ⟨ret_int (by rw [HU.out]; rfl), ?_, FrameF.refl _ _⟩
    rw [HU.out]
    exact Grow.refl_of HR.out
  · by_cases hbig : (ss.length : Int) - 1 ≤ n
    · have HU : Hid (mergeL ss n = (6, ss)) := by show mergeL _ _ = _; unfold mergeL; rw [if_pos (Or.inr hbig)]
      go_enter Tryz.func107, Tryz.ntmps107
      go_wp2
      go_ret
      refine ⟨ret_int (by rw [HU.out]; rfl), ?_, FrameF.refl _ _⟩
      rw [HU.out]
      exact Grow.refl_of HR.out
    · obtain ⟨m, rfl⟩ := Int.eq_ofNat_of_zero_le (by omega : 0 ≤ n)
      have hm1 : m + 1 < ss.length := by omega
      obtain ⟨u0, hu0, hE0⟩ := HEL.out m (by omega)
      obtain ⟨u1, hu1, hE1⟩ := HEL.out (m + 1) hm1
      have HL0 : Hid (ss.getD m [] = ss[m]) := by show _ = _; rw [List.getD_eq_getElem?_getD, List.getElem?_eq_getElem (by omega)]; rfl
      have HL1 : Hid (ss.getD (m + 1) [] = ss[m + 1]) := by show _ = _; rw [List.getD_eq_getElem?_getD, List.getElem?_eq_getElem hm1]; rfl
      have hb0 : ss[m].length ≤ 536870912 := by
        have a1 := bulkS_take ss m (by omega)
        have a2 := bulkS_le ss (m + 1)
        omega
      have hb1' : ss[m + 1].length ≤ 536870912 := by
        have a1 := bulkS_take ss (m + 1) hm1
        have a2 := bulkS_le ss (m + 1 + 1)
        omega
      generalize ss[m] = s0 at *
      generalize ss[m + 1] = s1 at *
      obtain ⟨bS, oS, rfl, hcl0⟩ := owns_cell HOS.out m _ hu0
      obtain ⟨bS', oS', hee, hcl1⟩ := owns_cell HOS.out (m + 1) _ hu1
      simp only [Option.some.injEq, Addr.mk.injEq] at hee
      obtain ⟨rfl, rfl, _⟩ := hee
      go_enter Tryz.func107, Tryz.ntmps107
      have hr0 : RdW w 5 u0 s0.length (entVals s0) := RdW.of_owns hE0.1
      have hr1 : RdW w 5 u1 s1.length (entVals s1) := RdW.of_owns hE1.1
      have hmi0 : (m : Int) < (ss.length : Int) := by omega
      have hmi1 : (m : Int) + 1 < (ss.length : Int) := by omega
      have hwr : IntKind.i64.wrap ((m : Int) + 1) = (m : Int) + 1 := wrapK _ _ rfl (by omega) (by omega)
      have HOv : Hid (∀ W : World, Below w.heap.size w W → Calls Tryz.prog 145 #[u0, u1] W fun e w' => ∃ u, e = .returned u ∧ w'.ownsRow W.heap.size 202 5 u (overL s0 s1).length (entVals (overL s0 s1)) ∧ Below W.heap.size W w') := fun W hW => over_any _ _ s0 s1 W (hr0.below hW) (hr1.below hW) (by omega) (by omega)
      clear hr0 hr1
      go_wp2
      go_region_held (fun w' => w'.cell? ⟨b, 1, none⟩ = some (.slice (some ⟨bS, oS, none⟩) ss.length cS) ∧ w'.cell? ⟨bS, oS + m, none⟩ = some u0 ∧ w'.cell? ⟨bS, oS + (m + 1), none⟩ = some u1) (go_keep) (first
        | (go_at_call 145; refine (HOv.out _ ?hB).mono ?_; (case hB => exact (Below.refl _ _).drew); rintro e w1 ⟨u, rfl, hou, hb1⟩; have t1 := cell_later hb1 hc1; have t2 := cell_later hb1 hcl0; have t3 := cell_later hb1 hcl1))
      obtain ⟨au, cu, rfl, hcu⟩ := owns_slice_wide hou
      have hbw : Below w.heap.size w w1 := ⟨hb1.os, hb1.tape, hb1.output, hb1.size, hb1.block⟩
      have how : w1.ownsRow w.heap.size 202 5 (.slice au (overL s0 s1).length cu) (overL s0 s1).length (entVals (overL s0 s1)) := hou
      have hol := overL_len s0 s1
      clear hou hb1 t2 t3
      by_cases hm0 : m = 0
      · have hmz : ((m : Int) == 0) = true := beq_iff_eq.2 (by omega)
        have HMe : Hid (merged ss m = livingL (overL s0 s1)) := by show merged _ _ = _; unfold merged; rw [if_pos hm0, HL0.out, HL1.out]
        clear hm0
        go_wp2_with fail
        refine (living_any _ (overL s0 s1) w1 (RdW.of_owns how) (by omega)).mono ?_
        rintro e W2 ⟨uL, rfl, hoL, hb2⟩
        obtain ⟨aL, cL, rfl, hcL⟩ := owns_slice_wide hoL
        have hzw := hbw.size
        have hbW : Below w.heap.size w W2 := hbw.trans (hb2.mono hzw)
        have hlv : (livingL (overL s0 s1)).length ≤ (overL s0 s1).length := List.length_filter_le _ _
        have HMb : Hid ((livingL (overL s0 s1)).length ≤ 1073741824) := by show _ ≤ _; omega
        have hoW := owns_mono hoL hzw
        have HMg := HMe
        clear HMe hoL hb2 how
        generalize livingL (overL s0 s1) = M at *
        have hMb : M.length ≤ 1073741824 := HMb.out
        go_wp2_with fail
        refine (gone_any _ M W2 (RdW.of_owns hoW) hMb).mono ?_
        rintro e w3 ⟨rfl, hb3⟩
        have hzW := hbW.size
        have hb4 : Below w.heap.size w w3 := hbW.trans (hb3.mono hzW)
        by_cases hg : 100 < M.length - (livingL M).length
        · have HU : Hid (mergeL ss (m : Int) = (4, ss)) := by
            show mergeL _ _ = _
            unfold mergeL
            rw [if_neg (by omega), Int.toNat_natCast, HMg.out, if_pos hg]
          go_wp2
          go_ret
          refine ⟨ret_int (by rw [HU.out]; rfl), ?_, FrameF.of_below hb4⟩
          rw [HU.out]
          exact ref_below HR.out hF hb4
        · have q1 := cell_later hb4 hc1
          go_wp2_with (at_builtin; go_must (refine wpList_append_rd _ rfl _ _ 118 rfl W2.heap.size 75 i8 (.slice none 0 0) 24 Tryz.underlying118 hi8 hy0 hy1 hy2 rfl _ _ _ rfl (World.ownsRow_nil _ _ _ _) _ (vs.take m) rfl ?xa0 ?xa9 ?xa1 ?xa2 ?xa3 ?_))
          case xa0 => exact ((Rd.of_owns HOS.out).below hb4).take m (by omega)
          case xa9 => intro u hu; exact HOne.out u (List.mem_of_mem_take hu)
          case xa1 => rw [List.length_take]; omega
          case xa2 => rw [List.length_take]; simp only [maxLen]; omega
          case xa3 => exact hb3.size
          intro v1 w4 hown1 hg1
          have hmm : min m ss.length = m := Nat.min_eq_left (by omega)
          simp only [hmm] at hown1
          have hB4 : Below W2.heap.size W2 w4 := hb3.grown hg1 hb3.size (by simp [Value.ownBlock])
          have hz4 := hB4.size
          obtain ⟨a4, c4, rfl, hc4⟩ := owns_slice hown1
          have q2 := cell_later (hbW.trans (hB4.mono hzW)) hc1
          clear hmm
          by_cases hM : 0 < M.length
          · go_wp2_with (at_builtin; go_must (refine wpList_append_one _ rfl _ _ 118 rfl W2.heap.size 75 i8 (.slice none 0 0) 24 Tryz.underlying118 hi8 hy0 hy1 hy2 rfl _ _ _ rfl (hown1.alloc _) ⟨w4.heap.size, 0, none⟩ _ rfl cell_new rfl ?xb1 ?xb2 ?xb3 ?_))
            case xb1 => omega
            case xb2 => unfold maxLen; omega
            case xb3 => first | omega | (simp; omega)
            intro v2 w5 hown2 hg2 _
            have hB5 : Below W2.heap.size W2 w5 := (hB4.alloc hz4 _).grown hg2 (by simp; omega) (fun b hb => (hown1.lt b hb).1)
            have hz5 := hB5.size
            obtain ⟨a5, c5, rfl, hc5⟩ := owns_slice hown2
            have q3 := cell_later (hbW.trans (hB5.mono hzW)) hc1
            by_cases hcp : cS = m + 2
            · subst hcp
              go_wp2_with (at_builtin; go_must (refine wpList_append_rd _ rfl _ _ 118 rfl W2.heap.size 75 i8 (.slice none 0 0) 24 Tryz.underlying118 hi8 hy0 hy1 hy2 rfl _ _ _ rfl hown2 _ (vs.drop (m + 2)) rfl ?xc0 ?xc9 ?xc1 ?xc2 ?xc3 ?_))
              case xc0 => go_light; simp only [Act.eval, Array.getD_eq_getD_getElem?]; have := ((Rd.of_owns HOS.out).below (hbW.trans (hB5.mono hzW))).drop (m + 2) (by omega); rw [if_pos rfl] at this; simpa [Addr.add_lit] using this
              case xc9 => intro u hu; exact HOne.out u (List.mem_of_mem_drop hu)
              case xc1 => rw [List.length_drop]; omega
              case xc2 => rw [List.length_drop]; simp only [maxLen]; omega
              case xc3 => exact hB5.size
              intro v3 w6 hown3 hg3
              have hB6 : Below W2.heap.size W2 w6 := hB5.grown hg3 hB5.size (fun b hb => (hown2.lt b hb).1)
              have hb7 : Below w.heap.size w w6 := hbW.trans (hB6.mono hzW)
              obtain ⟨a6, c6, rfl, _⟩ := owns_slice hown3
              have hold : ∀ u l, EntsO w F u l → EntsO w6 (Grow F w w6) u l := fun u l h => h.stay (fun k hk => hb7.block k (hF k hk)) (fun _ hk => Or.inl hk)
              have hz6 := hB6.size
              have hEL : EntsO w6 (Grow F w w6) (.slice aL M.length cL) M := ⟨owns_stay_wide (owns_mono hoW (Nat.zero_le _)) (fun k hk => hB6.block k (hoW.lt k hk).2), fun k hk => Or.inr ⟨(hoW.lt k hk).1, by have := (hoW.lt k hk).2; omega⟩⟩
              have hZ' : Zip (EntsO w6 (Grow F w w6)) (vs.take m ++ ([.slice aL M.length cL] ++ vs.drop (m + 2))) (ss.take m ++ ([M] ++ ss.drop (m + 2))) := ((HZ.out.take m).mono hold).append ((Zip.one hEL).append ((HZ.out.drop (m + 2)).mono hold))
              have hlen' : (ss.take m ++ ([M] ++ ss.drop (m + 2))).length = m + 1 := by simp; omega
              have ho' : w6.ownsRow w.heap.size 75 1 (.slice a6 (m + 1) c6) (ss.take m ++ ([M] ++ ss.drop (m + 2))).length (vs.take m ++ ([.slice aL M.length cL] ++ vs.drop (m + 2))) := by
                rw [hlen']
                have := owns_mono hown3 hzW
                simpa [hvl, Nat.min_eq_left (show m ≤ ss.length by omega)] using this
              have hps := ref_segs hF HH.out hFb HEB.out HTT.out hb7 ho' hZ'.1 hZ'.2
              have hc61 : w6.cell? ⟨b, 1, none⟩ = some (.slice (some ⟨bS, oS, none⟩) ss.length (m + 2)) := by rw [cell_of_heap hps.1]; rfl
              have hf61 : w6.frozen? ⟨b, 1, none⟩ = false := frozen_of_heap hps.1 1
              have HEnd : Hid (RefE (w6.setCell ⟨b, 1, none⟩ (.slice a6 (m + 1) c6)) (Grow F w (w6.setCell ⟨b, 1, none⟩ (.slice a6 (m + 1) c6))) b buf (ss.take m ++ ([M] ++ ss.drop (m + 2))) ts ∧ FrameF F w (w6.setCell ⟨b, 1, none⟩ (.slice a6 (m + 1) c6))) := hps.2
              have HU : Hid (mergeL ss (m : Int) = (0, ss.take m ++ ([M] ++ ss.drop (m + 2)))) := by
                show mergeL _ _ = _
                unfold mergeL
                rw [if_neg (by omega), Int.toNat_natCast, HMg.out, if_neg hg, if_pos hM]
              clear hps ho' hZ' hlen' hold hown3 hg3 hB6 hb7
              go_wp2
              go_ret
              refine ⟨ret_int (by rw [HU.out]; rfl), ?_⟩
              rw [HU.out]
              exact HEnd.out
            · have hcp' : ¬ m + 2 = cS := fun h => hcp h.symm
              go_wp2_with (at_builtin; go_must (refine wpList_append_rd _ rfl _ _ 118 rfl W2.heap.size 75 i8 (.slice none 0 0) 24 Tryz.underlying118 hi8 hy0 hy1 hy2 rfl _ _ _ rfl hown2 _ (vs.drop (m + 2)) rfl ?xd0 ?xd9 ?xd1 ?xd2 ?xd3 ?_))
              case xd0 => go_light; simp only [Act.eval, Array.getD_eq_getD_getElem?]; have := ((Rd.of_owns HOS.out).below (hbW.trans (hB5.mono hzW))).drop (m + 2) (by omega); rw [if_neg hcp] at this; simpa [Addr.add_lit] using this
              case xd9 => intro u hu; exact HOne.out u (List.mem_of_mem_drop hu)
              case xd1 => rw [List.length_drop]; omega
              case xd2 => rw [List.length_drop]; simp only [maxLen]; omega
              case xd3 => exact hB5.size
              intro v3 w6 hown3 hg3
              have hB6 : Below W2.heap.size W2 w6 := hB5.grown hg3 hB5.size (fun b hb => (hown2.lt b hb).1)
              have hb7 : Below w.heap.size w w6 := hbW.trans (hB6.mono hzW)
              obtain ⟨a6, c6, rfl, _⟩ := owns_slice hown3
              have hold : ∀ u l, EntsO w F u l → EntsO w6 (Grow F w w6) u l := fun u l h => h.stay (fun k hk => hb7.block k (hF k hk)) (fun _ hk => Or.inl hk)
              have hz6 := hB6.size
              have hEL : EntsO w6 (Grow F w w6) (.slice aL M.length cL) M := ⟨owns_stay_wide (owns_mono hoW (Nat.zero_le _)) (fun k hk => hB6.block k (hoW.lt k hk).2), fun k hk => Or.inr ⟨(hoW.lt k hk).1, by have := (hoW.lt k hk).2; omega⟩⟩
              have hZ' : Zip (EntsO w6 (Grow F w w6)) (vs.take m ++ ([.slice aL M.length cL] ++ vs.drop (m + 2))) (ss.take m ++ ([M] ++ ss.drop (m + 2))) := ((HZ.out.take m).mono hold).append ((Zip.one hEL).append ((HZ.out.drop (m + 2)).mono hold))
              have hlen' : (ss.take m ++ ([M] ++ ss.drop (m + 2))).length = m + 1 + (ss.length - (m + 2)) := by simp; omega
              have ho' : w6.ownsRow w.heap.size 75 1 (.slice a6 (m + 1 + (ss.length - (m + 2))) c6) (ss.take m ++ ([M] ++ ss.drop (m + 2))).length (vs.take m ++ ([.slice aL M.length cL] ++ vs.drop (m + 2))) := by
                rw [hlen']
                have := owns_mono hown3 hzW
                simpa [hvl, Nat.min_eq_left (show m ≤ ss.length by omega)] using this
              have hps := ref_segs hF HH.out hFb HEB.out HTT.out hb7 ho' hZ'.1 hZ'.2
              have hc61 : w6.cell? ⟨b, 1, none⟩ = some (.slice (some ⟨bS, oS, none⟩) ss.length cS) := by rw [cell_of_heap hps.1]; rfl
              have hf61 : w6.frozen? ⟨b, 1, none⟩ = false := frozen_of_heap hps.1 1
              have HEnd : Hid (RefE (w6.setCell ⟨b, 1, none⟩ (.slice a6 (m + 1 + (ss.length - (m + 2))) c6)) (Grow F w (w6.setCell ⟨b, 1, none⟩ (.slice a6 (m + 1 + (ss.length - (m + 2))) c6))) b buf (ss.take m ++ ([M] ++ ss.drop (m + 2))) ts ∧ FrameF F w (w6.setCell ⟨b, 1, none⟩ (.slice a6 (m + 1 + (ss.length - (m + 2))) c6))) := hps.2
              have HU : Hid (mergeL ss (m : Int) = (0, ss.take m ++ ([M] ++ ss.drop (m + 2)))) := by
                show mergeL _ _ = _
                unfold mergeL
                rw [if_neg (by omega), Int.toNat_natCast, HMg.out, if_neg hg, if_pos hM]
              clear hps ho' hZ' hlen' hold hown3 hg3 hB6 hb7
              go_wp2
              go_ret
              refine ⟨ret_int (by rw [HU.out]; rfl), ?_⟩
              rw [HU.out]
              exact HEnd.out
          · by_cases hcp : cS = m + 2
            · subst hcp
              go_wp2_with (at_builtin; go_must (refine wpList_append_rd _ rfl _ _ 118 rfl W2.heap.size 75 i8 (.slice none 0 0) 24 Tryz.underlying118 hi8 hy0 hy1 hy2 rfl _ _ _ rfl hown1 _ (vs.drop (m + 2)) rfl ?xe0 ?xe9 ?xe1 ?xe2 ?xe3 ?_))
              case xe0 => go_light; simp only [Act.eval, Array.getD_eq_getD_getElem?]; have := ((Rd.of_owns HOS.out).below (hbW.trans (hB4.mono hzW))).drop (m + 2) (by omega); rw [if_pos rfl] at this; simpa [Addr.add_lit] using this
              case xe9 => intro u hu; exact HOne.out u (List.mem_of_mem_drop hu)
              case xe1 => rw [List.length_drop]; omega
              case xe2 => rw [List.length_drop]; simp only [maxLen]; omega
              case xe3 => exact hB4.size
              intro v3 w6 hown3 hg3
              have hB6 : Below W2.heap.size W2 w6 := hB4.grown hg3 hB4.size (fun b hb => (hown1.lt b hb).1)
              have hb7 : Below w.heap.size w w6 := hbW.trans (hB6.mono hzW)
              obtain ⟨a6, c6, rfl, _⟩ := owns_slice hown3
              have hold : ∀ u l, EntsO w F u l → EntsO w6 (Grow F w w6) u l := fun u l h => h.stay (fun k hk => hb7.block k (hF k hk)) (fun _ hk => Or.inl hk)
              have hz6 := hB6.size
              have hZ' : Zip (EntsO w6 (Grow F w w6)) (vs.take m ++ ([] ++ vs.drop (m + 2))) (ss.take m ++ ([] ++ ss.drop (m + 2))) := ((HZ.out.take m).mono hold).append ((Zip.nil _).append ((HZ.out.drop (m + 2)).mono hold))
              have hlen' : (ss.take m ++ ([] ++ ss.drop (m + 2))).length = m := by simp; omega
              have ho' : w6.ownsRow w.heap.size 75 1 (.slice a6 (m) c6) (ss.take m ++ ([] ++ ss.drop (m + 2))).length (vs.take m ++ ([] ++ vs.drop (m + 2))) := by
                rw [hlen']
                have := owns_mono hown3 hzW
                simpa [hvl, Nat.min_eq_left (show m ≤ ss.length by omega)] using this
              have hps := ref_segs hF HH.out hFb HEB.out HTT.out hb7 ho' hZ'.1 hZ'.2
              have hc61 : w6.cell? ⟨b, 1, none⟩ = some (.slice (some ⟨bS, oS, none⟩) ss.length (m + 2)) := by rw [cell_of_heap hps.1]; rfl
              have hf61 : w6.frozen? ⟨b, 1, none⟩ = false := frozen_of_heap hps.1 1
              have HEnd : Hid (RefE (w6.setCell ⟨b, 1, none⟩ (.slice a6 (m) c6)) (Grow F w (w6.setCell ⟨b, 1, none⟩ (.slice a6 (m) c6))) b buf (ss.take m ++ ([] ++ ss.drop (m + 2))) ts ∧ FrameF F w (w6.setCell ⟨b, 1, none⟩ (.slice a6 (m) c6))) := hps.2
              have HU : Hid (mergeL ss (m : Int) = (0, ss.take m ++ ([] ++ ss.drop (m + 2)))) := by
                show mergeL _ _ = _
                unfold mergeL
                rw [if_neg (by omega), Int.toNat_natCast, HMg.out, if_neg hg, if_neg hM]
              clear hps ho' hZ' hlen' hold hown3 hg3 hB6 hb7
              go_wp2
              go_ret
              refine ⟨ret_int (by rw [HU.out]; rfl), ?_⟩
              rw [HU.out]
              exact HEnd.out
            · have hcp' : ¬ m + 2 = cS := fun h => hcp h.symm
              go_wp2_with (at_builtin; go_must (refine wpList_append_rd _ rfl _ _ 118 rfl W2.heap.size 75 i8 (.slice none 0 0) 24 Tryz.underlying118 hi8 hy0 hy1 hy2 rfl _ _ _ rfl hown1 _ (vs.drop (m + 2)) rfl ?xf0 ?xf9 ?xf1 ?xf2 ?xf3 ?_))
              case xf0 => go_light; simp only [Act.eval, Array.getD_eq_getD_getElem?]; have := ((Rd.of_owns HOS.out).below (hbW.trans (hB4.mono hzW))).drop (m + 2) (by omega); rw [if_neg hcp] at this; simpa [Addr.add_lit] using this
              case xf9 => intro u hu; exact HOne.out u (List.mem_of_mem_drop hu)
              case xf1 => rw [List.length_drop]; omega
              case xf2 => rw [List.length_drop]; simp only [maxLen]; omega
              case xf3 => exact hB4.size
              intro v3 w6 hown3 hg3
              have hB6 : Below W2.heap.size W2 w6 := hB4.grown hg3 hB4.size (fun b hb => (hown1.lt b hb).1)
              have hb7 : Below w.heap.size w w6 := hbW.trans (hB6.mono hzW)
              obtain ⟨a6, c6, rfl, _⟩ := owns_slice hown3
              have hold : ∀ u l, EntsO w F u l → EntsO w6 (Grow F w w6) u l := fun u l h => h.stay (fun k hk => hb7.block k (hF k hk)) (fun _ hk => Or.inl hk)
              have hz6 := hB6.size
              have hZ' : Zip (EntsO w6 (Grow F w w6)) (vs.take m ++ ([] ++ vs.drop (m + 2))) (ss.take m ++ ([] ++ ss.drop (m + 2))) := ((HZ.out.take m).mono hold).append ((Zip.nil _).append ((HZ.out.drop (m + 2)).mono hold))
              have hlen' : (ss.take m ++ ([] ++ ss.drop (m + 2))).length = m + (ss.length - (m + 2)) := by simp; omega
              have ho' : w6.ownsRow w.heap.size 75 1 (.slice a6 (m + (ss.length - (m + 2))) c6) (ss.take m ++ ([] ++ ss.drop (m + 2))).length (vs.take m ++ ([] ++ vs.drop (m + 2))) := by
                rw [hlen']
                have := owns_mono hown3 hzW
                simpa [hvl, Nat.min_eq_left (show m ≤ ss.length by omega)] using this
              have hps := ref_segs hF HH.out hFb HEB.out HTT.out hb7 ho' hZ'.1 hZ'.2
              have hc61 : w6.cell? ⟨b, 1, none⟩ = some (.slice (some ⟨bS, oS, none⟩) ss.length cS) := by rw [cell_of_heap hps.1]; rfl
              have hf61 : w6.frozen? ⟨b, 1, none⟩ = false := frozen_of_heap hps.1 1
              have HEnd : Hid (RefE (w6.setCell ⟨b, 1, none⟩ (.slice a6 (m + (ss.length - (m + 2))) c6)) (Grow F w (w6.setCell ⟨b, 1, none⟩ (.slice a6 (m + (ss.length - (m + 2))) c6))) b buf (ss.take m ++ ([] ++ ss.drop (m + 2))) ts ∧ FrameF F w (w6.setCell ⟨b, 1, none⟩ (.slice a6 (m + (ss.length - (m + 2))) c6))) := hps.2
              have HU : Hid (mergeL ss (m : Int) = (0, ss.take m ++ ([] ++ ss.drop (m + 2)))) := by
                show mergeL _ _ = _
                unfold mergeL
                rw [if_neg (by omega), Int.toNat_natCast, HMg.out, if_neg hg, if_neg hM]
              clear hps ho' hZ' hlen' hold hown3 hg3 hB6 hb7
              go_wp2
              go_ret
              refine ⟨ret_int (by rw [HU.out]; rfl), ?_⟩
              rw [HU.out]
              exact HEnd.out
      · have hmz : ((m : Int) == 0) = false := beq_eq_false_iff_ne.2 (by omega)
        have HMg : Hid (merged ss m = overL s0 s1) := by show merged _ _ = _; unfold merged; rw [if_neg hm0, HL0.out, HL1.out]
        have HMb : Hid ((overL s0 s1).length ≤ 1073741824) := by show _ ≤ _; omega
        have hoW := how
        have hbW := hbw
        clear how hbw hm0
        generalize hW2 : w1 = W2 at *
        clear hW2
        clear HOv hol
        generalize overL s0 s1 = M at *
        have hMb : M.length ≤ 1073741824 := HMb.out
        go_wp2_with fail
        refine (gone_any _ M W2 (RdW.of_owns hoW) hMb).mono ?_
        rintro e w3 ⟨rfl, hb3⟩
        have hzW := hbW.size
        have hb4 : Below w.heap.size w w3 := hbW.trans (hb3.mono hzW)
        by_cases hg : 100 < M.length - (livingL M).length
        · have HU : Hid (mergeL ss (m : Int) = (4, ss)) := by
            show mergeL _ _ = _
            unfold mergeL
            rw [if_neg (by omega), Int.toNat_natCast, HMg.out, if_pos hg]
          go_wp2
          go_ret
          refine ⟨ret_int (by rw [HU.out]; rfl), ?_, FrameF.of_below hb4⟩
          rw [HU.out]
          exact ref_below HR.out hF hb4
        · have q1 := cell_later hb4 hc1
          go_wp2_with (at_builtin; go_must (refine wpList_append_rd _ rfl _ _ 118 rfl W2.heap.size 75 i8 (.slice none 0 0) 24 Tryz.underlying118 hi8 hy0 hy1 hy2 rfl _ _ _ rfl (World.ownsRow_nil _ _ _ _) _ (vs.take m) rfl ?ya0 ?ya9 ?ya1 ?ya2 ?ya3 ?_))
          case ya0 => exact ((Rd.of_owns HOS.out).below hb4).take m (by omega)
          case ya9 => intro u hu; exact HOne.out u (List.mem_of_mem_take hu)
          case ya1 => rw [List.length_take]; omega
          case ya2 => rw [List.length_take]; simp only [maxLen]; omega
          case ya3 => exact hb3.size
          intro v1 w4 hown1 hg1
          have hmm : min m ss.length = m := Nat.min_eq_left (by omega)
          simp only [hmm] at hown1
          have hB4 : Below W2.heap.size W2 w4 := hb3.grown hg1 hb3.size (by simp [Value.ownBlock])
          have hz4 := hB4.size
          obtain ⟨a4, c4, rfl, hc4⟩ := owns_slice hown1
          have q2 := cell_later (hbW.trans (hB4.mono hzW)) hc1
          clear hmm
          by_cases hM : 0 < M.length
          · go_wp2_with (at_builtin; go_must (refine wpList_append_one _ rfl _ _ 118 rfl W2.heap.size 75 i8 (.slice none 0 0) 24 Tryz.underlying118 hi8 hy0 hy1 hy2 rfl _ _ _ rfl (hown1.alloc _) ⟨w4.heap.size, 0, none⟩ _ rfl cell_new rfl ?yb1 ?yb2 ?yb3 ?_))
            case yb1 => omega
            case yb2 => unfold maxLen; omega
            case yb3 => first | omega | (simp; omega)
            intro v2 w5 hown2 hg2 _
            have hB5 : Below W2.heap.size W2 w5 := (hB4.alloc hz4 _).grown hg2 (by simp; omega) (fun b hb => (hown1.lt b hb).1)
            have hz5 := hB5.size
            obtain ⟨a5, c5, rfl, hc5⟩ := owns_slice hown2
            have q3 := cell_later (hbW.trans (hB5.mono hzW)) hc1
            by_cases hcp : cS = m + 2
            · subst hcp
              go_wp2_with (at_builtin; go_must (refine wpList_append_rd _ rfl _ _ 118 rfl W2.heap.size 75 i8 (.slice none 0 0) 24 Tryz.underlying118 hi8 hy0 hy1 hy2 rfl _ _ _ rfl hown2 _ (vs.drop (m + 2)) rfl ?yc0 ?yc9 ?yc1 ?yc2 ?yc3 ?_))
              case yc0 => go_light; simp only [Act.eval, Array.getD_eq_getD_getElem?]; have := ((Rd.of_owns HOS.out).below (hbW.trans (hB5.mono hzW))).drop (m + 2) (by omega); rw [if_pos rfl] at this; simpa [Addr.add_lit] using this
              case yc9 => intro u hu; exact HOne.out u (List.mem_of_mem_drop hu)
              case yc1 => rw [List.length_drop]; omega
              case yc2 => rw [List.length_drop]; simp only [maxLen]; omega
              case yc3 => exact hB5.size
              intro v3 w6 hown3 hg3
              have hB6 : Below W2.heap.size W2 w6 := hB5.grown hg3 hB5.size (fun b hb => (hown2.lt b hb).1)
              have hb7 : Below w.heap.size w w6 := hbW.trans (hB6.mono hzW)
              obtain ⟨a6, c6, rfl, _⟩ := owns_slice hown3
              have hold : ∀ u l, EntsO w F u l → EntsO w6 (Grow F w w6) u l := fun u l h => h.stay (fun k hk => hb7.block k (hF k hk)) (fun _ hk => Or.inl hk)
              have hz6 := hB6.size
              have hEL : EntsO w6 (Grow F w w6) (.slice au M.length cu) M := ⟨owns_stay_wide (owns_mono hoW (Nat.zero_le _)) (fun k hk => hB6.block k (hoW.lt k hk).2), fun k hk => Or.inr ⟨(hoW.lt k hk).1, by have := (hoW.lt k hk).2; omega⟩⟩
              have hZ' : Zip (EntsO w6 (Grow F w w6)) (vs.take m ++ ([.slice au M.length cu] ++ vs.drop (m + 2))) (ss.take m ++ ([M] ++ ss.drop (m + 2))) := ((HZ.out.take m).mono hold).append ((Zip.one hEL).append ((HZ.out.drop (m + 2)).mono hold))
              have hlen' : (ss.take m ++ ([M] ++ ss.drop (m + 2))).length = m + 1 := by simp; omega
              have ho' : w6.ownsRow w.heap.size 75 1 (.slice a6 (m + 1) c6) (ss.take m ++ ([M] ++ ss.drop (m + 2))).length (vs.take m ++ ([.slice au M.length cu] ++ vs.drop (m + 2))) := by
                rw [hlen']
                have := owns_mono hown3 hzW
                simpa [hvl, Nat.min_eq_left (show m ≤ ss.length by omega)] using this
              have hps := ref_segs hF HH.out hFb HEB.out HTT.out hb7 ho' hZ'.1 hZ'.2
              have hc61 : w6.cell? ⟨b, 1, none⟩ = some (.slice (some ⟨bS, oS, none⟩) ss.length (m + 2)) := by rw [cell_of_heap hps.1]; rfl
              have hf61 : w6.frozen? ⟨b, 1, none⟩ = false := frozen_of_heap hps.1 1
              have HEnd : Hid (RefE (w6.setCell ⟨b, 1, none⟩ (.slice a6 (m + 1) c6)) (Grow F w (w6.setCell ⟨b, 1, none⟩ (.slice a6 (m + 1) c6))) b buf (ss.take m ++ ([M] ++ ss.drop (m + 2))) ts ∧ FrameF F w (w6.setCell ⟨b, 1, none⟩ (.slice a6 (m + 1) c6))) := hps.2
              have HU : Hid (mergeL ss (m : Int) = (0, ss.take m ++ ([M] ++ ss.drop (m + 2)))) := by
                show mergeL _ _ = _
                unfold mergeL
                rw [if_neg (by omega), Int.toNat_natCast, HMg.out, if_neg hg, if_pos hM]
              clear hps ho' hZ' hlen' hold hown3 hg3 hB6 hb7
              go_wp2
              go_ret
              refine ⟨ret_int (by rw [HU.out]; rfl), ?_⟩
              rw [HU.out]
              exact HEnd.out
            · have hcp' : ¬ m + 2 = cS := fun h => hcp h.symm
              go_wp2_with (at_builtin; go_must (refine wpList_append_rd _ rfl _ _ 118 rfl W2.heap.size 75 i8 (.slice none 0 0) 24 Tryz.underlying118 hi8 hy0 hy1 hy2 rfl _ _ _ rfl hown2 _ (vs.drop (m + 2)) rfl ?yd0 ?yd9 ?yd1 ?yd2 ?yd3 ?_))
              case yd0 => go_light; simp only [Act.eval, Array.getD_eq_getD_getElem?]; have := ((Rd.of_owns HOS.out).below (hbW.trans (hB5.mono hzW))).drop (m + 2) (by omega); rw [if_neg hcp] at this; simpa [Addr.add_lit] using this
              case yd9 => intro u hu; exact HOne.out u (List.mem_of_mem_drop hu)
              case yd1 => rw [List.length_drop]; omega
              case yd2 => rw [List.length_drop]; simp only [maxLen]; omega
              case yd3 => exact hB5.size
              intro v3 w6 hown3 hg3
              have hB6 : Below W2.heap.size W2 w6 := hB5.grown hg3 hB5.size (fun b hb => (hown2.lt b hb).1)
              have hb7 : Below w.heap.size w w6 := hbW.trans (hB6.mono hzW)
              obtain ⟨a6, c6, rfl, _⟩ := owns_slice hown3
              have hold : ∀ u l, EntsO w F u l → EntsO w6 (Grow F w w6) u l := fun u l h => h.stay (fun k hk => hb7.block k (hF k hk)) (fun _ hk => Or.inl hk)
              have hz6 := hB6.size
              have hEL : EntsO w6 (Grow F w w6) (.slice au M.length cu) M := ⟨owns_stay_wide (owns_mono hoW (Nat.zero_le _)) (fun k hk => hB6.block k (hoW.lt k hk).2), fun k hk => Or.inr ⟨(hoW.lt k hk).1, by have := (hoW.lt k hk).2; omega⟩⟩
              have hZ' : Zip (EntsO w6 (Grow F w w6)) (vs.take m ++ ([.slice au M.length cu] ++ vs.drop (m + 2))) (ss.take m ++ ([M] ++ ss.drop (m + 2))) := ((HZ.out.take m).mono hold).append ((Zip.one hEL).append ((HZ.out.drop (m + 2)).mono hold))
              have hlen' : (ss.take m ++ ([M] ++ ss.drop (m + 2))).length = m + 1 + (ss.length - (m + 2)) := by simp; omega
              have ho' : w6.ownsRow w.heap.size 75 1 (.slice a6 (m + 1 + (ss.length - (m + 2))) c6) (ss.take m ++ ([M] ++ ss.drop (m + 2))).length (vs.take m ++ ([.slice au M.length cu] ++ vs.drop (m + 2))) := by
                rw [hlen']
                have := owns_mono hown3 hzW
                simpa [hvl, Nat.min_eq_left (show m ≤ ss.length by omega)] using this
              have hps := ref_segs hF HH.out hFb HEB.out HTT.out hb7 ho' hZ'.1 hZ'.2
              have hc61 : w6.cell? ⟨b, 1, none⟩ = some (.slice (some ⟨bS, oS, none⟩) ss.length cS) := by rw [cell_of_heap hps.1]; rfl
              have hf61 : w6.frozen? ⟨b, 1, none⟩ = false := frozen_of_heap hps.1 1
              have HEnd : Hid (RefE (w6.setCell ⟨b, 1, none⟩ (.slice a6 (m + 1 + (ss.length - (m + 2))) c6)) (Grow F w (w6.setCell ⟨b, 1, none⟩ (.slice a6 (m + 1 + (ss.length - (m + 2))) c6))) b buf (ss.take m ++ ([M] ++ ss.drop (m + 2))) ts ∧ FrameF F w (w6.setCell ⟨b, 1, none⟩ (.slice a6 (m + 1 + (ss.length - (m + 2))) c6))) := hps.2
              have HU : Hid (mergeL ss (m : Int) = (0, ss.take m ++ ([M] ++ ss.drop (m + 2)))) := by
                show mergeL _ _ = _
                unfold mergeL
                rw [if_neg (by omega), Int.toNat_natCast, HMg.out, if_neg hg, if_pos hM]
              clear hps ho' hZ' hlen' hold hown3 hg3 hB6 hb7
              go_wp2
              go_ret
              refine ⟨ret_int (by rw [HU.out]; rfl), ?_⟩
              rw [HU.out]
              exact HEnd.out
          · by_cases hcp : cS = m + 2
            · subst hcp
              go_wp2_with (at_builtin; go_must (refine wpList_append_rd _ rfl _ _ 118 rfl W2.heap.size 75 i8 (.slice none 0 0) 24 Tryz.underlying118 hi8 hy0 hy1 hy2 rfl _ _ _ rfl hown1 _ (vs.drop (m + 2)) rfl ?ye0 ?ye9 ?ye1 ?ye2 ?ye3 ?_))
              case ye0 => go_light; simp only [Act.eval, Array.getD_eq_getD_getElem?]; have := ((Rd.of_owns HOS.out).below (hbW.trans (hB4.mono hzW))).drop (m + 2) (by omega); rw [if_pos rfl] at this; simpa [Addr.add_lit] using this
              case ye9 => intro u hu; exact HOne.out u (List.mem_of_mem_drop hu)
              case ye1 => rw [List.length_drop]; omega
              case ye2 => rw [List.length_drop]; simp only [maxLen]; omega
              case ye3 => exact hB4.size
              intro v3 w6 hown3 hg3
              have hB6 : Below W2.heap.size W2 w6 := hB4.grown hg3 hB4.size (fun b hb => (hown1.lt b hb).1)
              have hb7 : Below w.heap.size w w6 := hbW.trans (hB6.mono hzW)
              obtain ⟨a6, c6, rfl, _⟩ := owns_slice hown3
              have hold : ∀ u l, EntsO w F u l → EntsO w6 (Grow F w w6) u l := fun u l h => h.stay (fun k hk => hb7.block k (hF k hk)) (fun _ hk => Or.inl hk)
              have hz6 := hB6.size
              have hZ' : Zip (EntsO w6 (Grow F w w6)) (vs.take m ++ ([] ++ vs.drop (m + 2))) (ss.take m ++ ([] ++ ss.drop (m + 2))) := ((HZ.out.take m).mono hold).append ((Zip.nil _).append ((HZ.out.drop (m + 2)).mono hold))
              have hlen' : (ss.take m ++ ([] ++ ss.drop (m + 2))).length = m := by simp; omega
              have ho' : w6.ownsRow w.heap.size 75 1 (.slice a6 (m) c6) (ss.take m ++ ([] ++ ss.drop (m + 2))).length (vs.take m ++ ([] ++ vs.drop (m + 2))) := by
                rw [hlen']
                have := owns_mono hown3 hzW
                simpa [hvl, Nat.min_eq_left (show m ≤ ss.length by omega)] using this
              have hps := ref_segs hF HH.out hFb HEB.out HTT.out hb7 ho' hZ'.1 hZ'.2
              have hc61 : w6.cell? ⟨b, 1, none⟩ = some (.slice (some ⟨bS, oS, none⟩) ss.length (m + 2)) := by rw [cell_of_heap hps.1]; rfl
              have hf61 : w6.frozen? ⟨b, 1, none⟩ = false := frozen_of_heap hps.1 1
              have HEnd : Hid (RefE (w6.setCell ⟨b, 1, none⟩ (.slice a6 (m) c6)) (Grow F w (w6.setCell ⟨b, 1, none⟩ (.slice a6 (m) c6))) b buf (ss.take m ++ ([] ++ ss.drop (m + 2))) ts ∧ FrameF F w (w6.setCell ⟨b, 1, none⟩ (.slice a6 (m) c6))) := hps.2
              have HU : Hid (mergeL ss (m : Int) = (0, ss.take m ++ ([] ++ ss.drop (m + 2)))) := by
                show mergeL _ _ = _
                unfold mergeL
                rw [if_neg (by omega), Int.toNat_natCast, HMg.out, if_neg hg, if_neg hM]
              clear hps ho' hZ' hlen' hold hown3 hg3 hB6 hb7
              go_wp2
              go_ret
              refine ⟨ret_int (by rw [HU.out]; rfl), ?_⟩
              rw [HU.out]
              exact HEnd.out
            · have hcp' : ¬ m + 2 = cS := fun h => hcp h.symm
              go_wp2_with (at_builtin; go_must (refine wpList_append_rd _ rfl _ _ 118 rfl W2.heap.size 75 i8 (.slice none 0 0) 24 Tryz.underlying118 hi8 hy0 hy1 hy2 rfl _ _ _ rfl hown1 _ (vs.drop (m + 2)) rfl ?yf0 ?yf9 ?yf1 ?yf2 ?yf3 ?_))
              case yf0 => go_light; simp only [Act.eval, Array.getD_eq_getD_getElem?]; have := ((Rd.of_owns HOS.out).below (hbW.trans (hB4.mono hzW))).drop (m + 2) (by omega); rw [if_neg hcp] at this; simpa [Addr.add_lit] using this
              case yf9 => intro u hu; exact HOne.out u (List.mem_of_mem_drop hu)
              case yf1 => rw [List.length_drop]; omega
              case yf2 => rw [List.length_drop]; simp only [maxLen]; omega
              case yf3 => exact hB4.size
              intro v3 w6 hown3 hg3
              have hB6 : Below W2.heap.size W2 w6 := hB4.grown hg3 hB4.size (fun b hb => (hown1.lt b hb).1)
              have hb7 : Below w.heap.size w w6 := hbW.trans (hB6.mono hzW)
              obtain ⟨a6, c6, rfl, _⟩ := owns_slice hown3
              have hold : ∀ u l, EntsO w F u l → EntsO w6 (Grow F w w6) u l := fun u l h => h.stay (fun k hk => hb7.block k (hF k hk)) (fun _ hk => Or.inl hk)
              have hz6 := hB6.size
              have hZ' : Zip (EntsO w6 (Grow F w w6)) (vs.take m ++ ([] ++ vs.drop (m + 2))) (ss.take m ++ ([] ++ ss.drop (m + 2))) := ((HZ.out.take m).mono hold).append ((Zip.nil _).append ((HZ.out.drop (m + 2)).mono hold))
              have hlen' : (ss.take m ++ ([] ++ ss.drop (m + 2))).length = m + (ss.length - (m + 2)) := by simp; omega
              have ho' : w6.ownsRow w.heap.size 75 1 (.slice a6 (m + (ss.length - (m + 2))) c6) (ss.take m ++ ([] ++ ss.drop (m + 2))).length (vs.take m ++ ([] ++ vs.drop (m + 2))) := by
                rw [hlen']
                have := owns_mono hown3 hzW
                simpa [hvl, Nat.min_eq_left (show m ≤ ss.length by omega)] using this
              have hps := ref_segs hF HH.out hFb HEB.out HTT.out hb7 ho' hZ'.1 hZ'.2
              have hc61 : w6.cell? ⟨b, 1, none⟩ = some (.slice (some ⟨bS, oS, none⟩) ss.length cS) := by rw [cell_of_heap hps.1]; rfl
              have hf61 : w6.frozen? ⟨b, 1, none⟩ = false := frozen_of_heap hps.1 1
              have HEnd : Hid (RefE (w6.setCell ⟨b, 1, none⟩ (.slice a6 (m + (ss.length - (m + 2))) c6)) (Grow F w (w6.setCell ⟨b, 1, none⟩ (.slice a6 (m + (ss.length - (m + 2))) c6))) b buf (ss.take m ++ ([] ++ ss.drop (m + 2))) ts ∧ FrameF F w (w6.setCell ⟨b, 1, none⟩ (.slice a6 (m + (ss.length - (m + 2))) c6))) := hps.2
              have HU : Hid (mergeL ss (m : Int) = (0, ss.take m ++ ([] ++ ss.drop (m + 2)))) := by
                show mergeL _ _ = _
                unfold mergeL
                rw [if_neg (by omega), Int.toNat_natCast, HMg.out, if_neg hg, if_neg hM]
              clear hps ho' hZ' hlen' hold hown3 hg3 hB6 hb7
              go_wp2
              go_ret
              refine ⟨ret_int (by rw [HU.out]; rfl), ?_⟩
              rw [HU.out]
              exact HEnd.out

end Go.Proofs.YtocbogeoffeolaaGreatDoor

namespace Go.Proofs.YtocbogeoffeolaaGreatDoor
open Go.RowKit

/-- What isNode's loop has seen: nobody ends there, and all that go on do so with the byte nx. -/
def Seen (l : List Ent) (p : Wd) (k : Nat) (nx : Int) : Prop :=
  (∀ j (h : j < k) (h' : j < l.length), begB (keyE l[j]) p = true → keyE l[j] ≠ p ∧ nx = (((keyE l[j]).getD p.length 0).toNat : Int)) ∧
    (nx = -1 ∨ (0 ≤ nx ∧ ∃ j, j < k ∧ ∃ h' : j < l.length, begB (keyE l[j]) p = true ∧ nx = (((keyE l[j]).getD p.length 0).toNat : Int)))
theorem seen_zero (l : List Ent) (p : Wd) : Seen l p 0 (-1) := ⟨fun _ h => by omega, Or.inl rfl⟩
theorem seen_no {l : List Ent} {p : Wd} {k : Nat} {nx : Int} (h : Seen l p k nx) (hk : k < l.length) (hb : begB (keyE l[k]) p = false) : Seen l p (k + 1) nx := by
  refine ⟨fun j hj h' hbj => ?_, ?_⟩
  · by_cases e : j = k
    · subst e; rw [hb] at hbj; cases hbj
    · exact h.1 j (by omega) h' hbj
  · rcases h.2 with h | ⟨h0, j, hj, h⟩
    · exact Or.inl h
    · exact Or.inr ⟨h0, j, by omega, h⟩
theorem seen_yes {l : List Ent} {p : Wd} {k : Nat} {nx : Int} (h : Seen l p k nx) (hk : k < l.length) (hb : begB (keyE l[k]) p = true) (hne : keyE l[k] ≠ p) (hx : nx = -1 ∨ nx = (((keyE l[k]).getD p.length 0).toNat : Int)) :
    Seen l p (k + 1) (((keyE l[k]).getD p.length 0).toNat : Int) := by
  refine ⟨fun j hj h' hbj => ?_, Or.inr ⟨by omega, k, by omega, hk, hb, rfl⟩⟩
  by_cases e : j = k
  · subst e; exact ⟨hne, rfl⟩
  · have := h.1 j (by omega) h' hbj
    refine ⟨this.1, ?_⟩
    rcases hx with hx | hx
    · omega
    · rw [← hx]; exact this.2
theorem node_nil (l : List Ent) : isNodeL l [] = true := by simp [isNodeL]
theorem node_end {l : List Ent} {p : Wd} {k : Nat} (hk : k < l.length) (h : keyE l[k] = p) : isNodeL l p = true := by
  unfold isNodeL
  simp only [Bool.or_eq_true, List.any_eq_true, beq_iff_eq]
  exact Or.inl (Or.inr ⟨l[k], List.getElem_mem hk, h⟩)
theorem node_part {l : List Ent} {p : Wd} {k : Nat} {nx : Int} (h : Seen l p k nx) (hk : k < l.length) (hb : begB (keyE l[k]) p = true) (h0 : 0 ≤ nx) (hne : (((keyE l[k]).getD p.length 0).toNat : Int) ≠ nx) : isNodeL l p = true := by
  unfold isNodeL
  rcases h.2 with h | ⟨_, j, hj, h', hbj, hx⟩
  · omega
  · simp only [Bool.or_eq_true, List.any_eq_true, Bool.and_eq_true, bne_iff_ne]
    refine Or.inr ⟨l[k], List.getElem_mem hk, l[j], List.getElem_mem h', ⟨hb, hbj⟩, fun e => hne ?_⟩
    rw [e, hx]
theorem node_none {l : List Ent} {p : Wd} {nx : Int} (hp : p ≠ []) (h : Seen l p l.length nx) : isNodeL l p = false := by
  rw [Bool.eq_false_iff]
  intro hy
  unfold isNodeL at hy
  simp only [Bool.or_eq_true, List.any_eq_true, beq_iff_eq, Bool.and_eq_true, bne_iff_ne] at hy
  rcases hy with (hh | ⟨e, he, hh⟩) | ⟨e, he, f, hf, ⟨h1, h2⟩, hd⟩
  · simp at hh; exact hp hh
  · obtain ⟨j, hj, rfl⟩ := List.mem_iff_getElem.1 he
    exact (h.1 j hj hj ((begB_iff _ _).2 (by rw [hh]; exact List.prefix_refl _))).1 hh
  · obtain ⟨j, hj, rfl⟩ := List.mem_iff_getElem.1 he
    obtain ⟨i, hi, rfl⟩ := List.mem_iff_getElem.1 hf
    have a := (h.1 j hj hj h1).2
    have b := (h.1 i hi hi h2).2
    apply hd
    apply UInt8.toNat_inj.1
    omega

set_option maxHeartbeats 1000000 in
set_option maxRecDepth 100000 in
theorem isNode_any (v : Value) (l : List Ent) (p : ByteArray) (w : World) (hv : RdW w 5 v l.length (entVals l)) (ht : ∀ e ∈ l, e.text.length ≤ 1073741824) :
    Calls Tryz.prog 203 #[v, .string p] w fun e w' => e = .returned (.bool (isNodeL l p.data.toList)) ∧ Below w.heap.size w w' := by
  obtain ⟨a, cap, rfl, hc, hm, _, _⟩ := id hv
  have HV : Hid (RdW w 5 (.slice a l.length cap) l.length (entVals l)) := hv
  have HT : Hid (∀ e ∈ l, e.text.length ≤ 1073741824) := ht
  clear hv ht
  unfold maxLen at hm
  by_cases hp0 : p.data.toList = []
  · have hnil : p.toList.isEmpty = true := by rw [ByteArray.toList_eq, hp0]; rfl
    have HN : Hid (isNodeL l p.data.toList = true) := by show _ = _; rw [hp0]; exact node_nil l
    clear hp0
    go_enter Tryz.func203, Tryz.ntmps203
    go_wp2
    go_ret
    exact ⟨ret_bool HN.out.symm, Below.refl _ _⟩
  · have hnil : p.toList.isEmpty = false := by
      rw [ByteArray.toList_eq]
      cases h : p.data.toList with
      | nil => exact absurd h hp0
      | cons a l => rfl
    have HP0 : Hid (p.data.toList ≠ []) := hp0
    clear hp0
    go_enter Tryz.func203, Tryz.ntmps203
    go_wp2
    go_loopw [5, 6] (fun x i wr => ∃ (k : Nat) (nx : Int), k ≤ l.length ∧ i = .int .i64 k ∧ x = .int .i64 nx ∧ Seen l p.data.toList k nx ∧ -1 ≤ nx ∧ nx ≤ 255 ∧ Below w.heap.size w wr) (fun _ i _ => l.length - (intOf i).toNat)
    case atStart => exact ⟨0, -1, Nat.zero_le _, rfl, rfl, seen_zero _ _, by omega, by omega, Below.refl _ _⟩
    case round =>
      obtain ⟨k, nx, hk, rfl, rfl, hseen, hx0, hx1, hbel⟩ := hrel
      have HSe : Hid (Seen l p.data.toList k nx) := hseen
      clear hseen
      have HS := hbel.size
      by_cases hlt : k < l.length
      · obtain ⟨b, off, rfl, c0, c1, c2, c3, c4⟩ := ent_cells (HV.out.below hbel) k hlt
        have htl : (⟨l[k].text.toArray⟩ : ByteArray).size ≤ 1099511627776 := by
          have := HT.out l[k] (List.getElem_mem hlt)
          show l[k].text.toArray.size ≤ _
          simp; omega
        go_wp2_with fail
        refine (fold_any _ _ htl).mono ?_
        rintro e w1 ⟨rfl, hb1⟩
        obtain ⟨kb, hkb⟩ : ∃ kb : ByteArray, kb = ⟨(keyE l[k]).toArray⟩ := ⟨_, rfl⟩
        have hkb2 : (⟨(foldL (⟨l[k].text.toArray⟩ : ByteArray).data.toList).toArray⟩ : ByteArray) = kb := by rw [hkb]; rfl
        have HK : Hid (kb.data.toList = keyE l[k]) := by show _ = _; rw [hkb]
        rw [hkb2]
        clear hkb hkb2 htl
        have hb2 : Below w.heap.size w w1 := hbel.trans (hb1.mono HS)
        clear c0 c1 c2 c3 c4 hb1
        go_wp2_with fail
        refine (begins_any kb p w1).mono ?_
        rintro e w2 ⟨rfl, rfl⟩
        cases hbg : begB kb.data.toList p.data.toList with
        | false =>
          have HB : Hid (begB (keyE l[k]) p.data.toList = false) := by show _ = _; rw [← HK.out]; exact hbg
          clear hbg
          go_wp2
          go_roundw
          case rel => exact ⟨k + 1, nx, by omega, by go_num, rfl, seen_no HSe.out hlt HB.out, hx0, hx1, hb2⟩
          case measure => simp [intOf]; omega
        | true =>
          have HB : Hid (begB (keyE l[k]) p.data.toList = true) := by show _ = _; rw [← HK.out]; exact hbg
          by_cases hsp : kb.data.toList = p.data.toList
          · have hsq : (kb.toList == p.toList) = true := by rw [ByteArray.toList_eq, ByteArray.toList_eq, hsp]; simp
            have HN : Hid (isNodeL l p.data.toList = true) := node_end hlt (by rw [← HK.out]; exact hsp)
            clear hbg hsp
            go_wp2
            go_ret
            exact ⟨ret_bool HN.out.symm, hb2⟩
          · have hsq : (kb.toList == p.toList) = false := by rw [ByteArray.toList_eq, ByteArray.toList_eq, beq_eq_false_iff_ne]; exact hsp
            have hpl : p.size < kb.size := by
              have := pre_lt ((begB_iff _ _).1 hbg) hsp
              simpa using this
            have hgd : (keyE l[k]).getD p.data.toList.length 0 = kb[p.size] := by
              rw [← HK.out]
              have := getD_get kb p.size hpl
              simpa using this
            have HGd : Hid ((((keyE l[k]).getD p.data.toList.length 0).toNat : Int) = (kb[p.size].toNat : Int)) := by show _ = _; rw [hgd]
            have HNe : Hid (keyE l[k] ≠ p.data.toList) := by show _ ≠ _; rw [← HK.out]; exact hsp
            have hlow := kb[p.size].toNat_lt
            clear hbg hsp hgd
            by_cases hneg : nx < 0
            · go_wp2
              go_roundw
              case rel => exact ⟨k + 1, (kb[p.size].toNat : Int), by omega, by go_num, rfl, by rw [← HGd.out]; exact seen_yes HSe.out hlt HB.out HNe.out (Or.inl (by omega)), by omega, by omega, hb2⟩
              case measure => simp [intOf]; omega
            · by_cases hxe : (kb[p.size].toNat : Int) = nx
              · have hxe' : ((kb[p.size].toNat : Int) == nx) = true := by rw [hxe]; simp
                have HXe : Hid (nx = (kb[p.size].toNat : Int)) := hxe.symm
                clear hxe
                go_wp2
                go_roundw
                case rel => exact ⟨k + 1, (kb[p.size].toNat : Int), by omega, by go_num, rfl, by rw [← HGd.out]; exact seen_yes HSe.out hlt HB.out HNe.out (Or.inr (by rw [HGd.out]; exact HXe.out)), by omega, by omega, hb2⟩
                case measure => simp [intOf]; omega
              · have hxe' : ((kb[p.size].toNat : Int) == nx) = false := by rw [beq_eq_false_iff_ne]; exact hxe
                have HN : Hid (isNodeL l p.data.toList = true) := node_part HSe.out hlt HB.out (by omega) (by rw [HGd.out]; exact hxe)
                clear hxe
                go_wp2
                go_ret
                exact ⟨ret_bool HN.out.symm, hb2⟩
      · have ek : k = l.length := by omega
        subst ek
        have HN : Hid (isNodeL l p.data.toList = false) := node_none HP0.out HSe.out
        go_wp2
        go_ret
        exact ⟨ret_bool HN.out.symm, hbel⟩

end Go.Proofs.YtocbogeoffeolaaGreatDoor

namespace Go.Proofs.YtocbogeoffeolaaGreatDoor
open Go.RowKit

/-- The tape, in memory: what is left to be read (none: it is bad). -/
def TapeR (w : World) (B : Nat) (S : ByteArray) (st : Option Wd) (vA : Value) : Prop :=
  ∃ p : Nat, w.heap[B]? = some (.cells #[.string S, .int .i64 p, .bool st.isNone, vA] 259 (0, 0)) ∧ p ≤ S.size ∧ ∀ r, st = some r → S.data.toList.drop p = r
/-- So many bytes: what is taken, what is left. -/
def takeS (n : Nat) : Option Wd → Wd × Option Wd
  | none => ([], none)
  | some r => if n ≤ r.length then (r.take n, some (r.drop n)) else ([], none)

set_option maxHeartbeats 4000000 in
set_option maxRecDepth 100000 in
theorem tape_take (B : Nat) (S : ByteArray) (st : Option Wd) (vA : Value) (n : Nat) (w : World) (h : TapeR w B S st vA) (hS : S.size ≤ 1048576) (hn : n ≤ 16777216) :
    Calls Tryz.prog 205 #[.pointer (some ⟨B, 0, none⟩), .int .i64 n] w fun e w' => e = .returned (.string ⟨(takeS n st).1.toArray⟩) ∧ TapeR w' B S (takeS n st).2 vA ∧ FrameF (· = B) w w' ∧ w'.heap.size = w.heap.size := by
  obtain ⟨p, hh, hp, hr⟩ := h
  have c0 : w.cell? ⟨B, 0, none⟩ = some (.string S) := by rw [cell_of_heap hh]; rfl
  have c1 : w.cell? ⟨B, 1, none⟩ = some (.int .i64 p) := by rw [cell_of_heap hh]; rfl
  have c2 : w.cell? ⟨B, 2, none⟩ = some (.bool st.isNone) := by rw [cell_of_heap hh]; rfl
  have f1 : w.frozen? ⟨B, 1, none⟩ = false := frozen_of_heap hh 1
  have f2 : w.frozen? ⟨B, 2, none⟩ = false := frozen_of_heap hh 2
  have HH : Hid (w.heap[B]? = some (.cells #[.string S, .int .i64 p, .bool st.isNone, vA] 259 (0, 0))) := hh
  have HR : Hid (∀ r, st = some r → S.data.toList.drop p = r) := hr
  clear hh hr
  cases st with
  | none =>
    have c2t : w.cell? ⟨B, 2, none⟩ = some (.bool true) := c2
    clear c2
    go_enter Tryz.func205, Tryz.ntmps205
    go_wp2_with fail
    go_quiet (fail)
    go_wp2
    go_ret
    have h1 : ((w.drewN nq).setCell ⟨B, 2, none⟩ (.bool true)).heap[B]? = some (.cells #[.string S, .int .i64 p, .bool true, vA] 259 (0, 0)) := by
      rw [heap_set (w := w.drewN nq) HH.out]
      simp
    have hf := frame_set (w := w.drewN nq) (b := B) (o := 2) (v := .bool true) (F := (· = B)) rfl
    exact ⟨rfl, ⟨p, h1, hp, fun r h => by cases h⟩, ⟨hf.os, hf.tape, hf.output, hf.size, hf.block⟩, by simp [World.setCell, World.drewN]⟩
  | some r =>
    have e : S.data.toList.drop p = r := HR.out r rfl
    have hrl : r.length = S.size - p := by rw [← e]; simp
    have HE : Hid (S.data.toList.drop p = r) := e
    have c2f : w.cell? ⟨B, 2, none⟩ = some (.bool false) := c2
    have hwr : IntKind.i64.wrap ((S.size : Int) - (p : Int)) = (S.size : Int) - (p : Int) := by simp only [IntKind.wrap_i64]; omega
    clear c2 e HR
    by_cases hlt : n ≤ r.length
    · have hle : ¬ (S.size : Int) - (p : Int) < (n : Int) := by omega
      have hwr2 : IntKind.i64.wrap ((p : Int) + (n : Int)) = ((p + n : Nat) : Int) := by simp only [IntKind.wrap_i64]; omega
      have hwr3 : IntKind.i64.wrap ((p : Int) + (n : Int) - (n : Int)) = (p : Int) := by simp only [IntKind.wrap_i64]; omega
      have hle2 : (p : Int) ≤ ((p + n : Nat) : Int) := by omega
      have hle3 : ((p + n : Nat) : Int) ≤ (S.size : Int) := by omega
      have HT : Hid (takeS n (some r) = (r.take n, some (r.drop n))) := by show takeS _ _ = _; simp [takeS, hlt]
      have hle4 : p + n ≤ S.size := by omega
      clear hlt hrl
      go_enter Tryz.func205, Tryz.ntmps205
      go_wp2_with fail
      go_quiet (fail)
      revert nq
      intro k0
      go_wp2_with fail
      go_quiet (fail)
      go_wp2
      go_ret
      have h1 : ((w.drewN k0).setCell ⟨B, 1, none⟩ (.int .i64 ((p : Int) + (n : Int)))).heap[B]? = some (.cells #[.string S, .int .i64 ((p + n : Nat) : Int), .bool false, vA] 259 (0, 0)) := by
        rw [heap_set (w := w.drewN k0) HH.out]
        simp
      have hf := frame_set (w := w.drewN k0) (b := B) (o := 1) (v := .int .i64 ((p : Int) + (n : Int))) (F := (· = B)) rfl
      rw [HT.out]
      refine ⟨?_, ⟨p + n, h1, hle4, fun r' h => ?_⟩, ⟨hf.os, hf.tape, hf.output, hf.size, hf.block⟩, by simp [World.setCell, World.drewN]⟩
      · show Ending.returned (.string (S.extract p (p + n))) = _
        rw [ext_mid, HE.out]
      · cases h
        rw [← HE.out, List.drop_drop]
    · have hle : (S.size : Int) - (p : Int) < (n : Int) := by omega
      have HT : Hid (takeS n (some r) = ([], none)) := by show takeS _ _ = _; simp [takeS, hlt]
      clear hlt hrl
      go_enter Tryz.func205, Tryz.ntmps205
      go_wp2_with fail
      go_quiet (fail)
      go_wp2
      go_ret
      have h1 : ((w.drewN nq).setCell ⟨B, 2, none⟩ (.bool true)).heap[B]? = some (.cells #[.string S, .int .i64 p, .bool true, vA] 259 (0, 0)) := by
        rw [heap_set (w := w.drewN nq) HH.out]
        simp
      have hf := frame_set (w := w.drewN nq) (b := B) (o := 2) (v := .bool true) (F := (· = B)) rfl
      rw [HT.out]
      exact ⟨rfl, ⟨p, h1, hp, fun r h => by cases h⟩, ⟨hf.os, hf.tape, hf.output, hf.size, hf.block⟩, by simp [World.setCell, World.drewN]⟩

end Go.Proofs.YtocbogeoffeolaaGreatDoor

namespace Go.Proofs.YtocbogeoffeolaaGreatDoor
open Go.RowKit

/-- Bytes as a number, the greatest first. -/
def numF (l : Wd) : Nat := l.foldl (fun n c => 256 * n + c.toNat) 0
theorem numF_snoc (l : Wd) (c : UInt8) : numF (l ++ [c]) = 256 * numF l + c.toNat := by unfold numF; rw [List.foldl_append]; rfl
theorem numF_take (l : Wd) (k : Nat) (h : k < l.length) : numF (l.take (k + 1)) = 256 * numF (l.take k) + (l.getD k 0).toNat := by
  rw [List.take_succ_eq_append_getElem h, numF_snoc, List.getD_eq_getElem?_getD, List.getElem?_eq_getElem h]
  rfl
theorem numF_lt (l : Wd) : ∀ k, k ≤ l.length → numF (l.take k) < 256 ^ k := by
  intro k
  induction k with
  | zero => intro _; simp [numF]
  | succ k ih =>
    intro h
    have h1 := ih (by omega)
    rw [numF_take l k (by omega), Nat.pow_succ]
    have := (l.getD k 0).toNat_lt
    omega
theorem takeS_len (n : Nat) (st : Option Wd) : (takeS n st).1.length ≤ n := by
  cases st with
  | none => simp [takeS]
  | some r =>
    by_cases h : n ≤ r.length
    · simp [takeS, h]
    · simp [takeS, h]

set_option maxHeartbeats 2000000 in
set_option maxRecDepth 100000 in
theorem tape_number (B : Nat) (S : ByteArray) (st : Option Wd) (vA : Value) (n : Nat) (w : World) (h : TapeR w B S st vA) (hS : S.size ≤ 1048576) (hn : n ≤ 3) :
    Calls Tryz.prog 204 #[.pointer (some ⟨B, 0, none⟩), .int .i64 n] w fun e w' => e = .returned (.int .i64 (numF (takeS n st).1)) ∧ TapeR w' B S (takeS n st).2 vA ∧ FrameF (· = B) w w' ∧ w'.heap.size = w.heap.size := by
  have ht := tape_take B S st vA n w h hS (by omega)
  have hl := takeS_len n st
  obtain ⟨T, hT⟩ : ∃ T, T = takeS n st := ⟨_, rfl⟩
  rw [← hT] at ht hl ⊢
  obtain ⟨bs, st'⟩ := T
  simp only at ht hl ⊢
  have hsz : (⟨bs.toArray⟩ : ByteArray).size = bs.length := by show bs.toArray.size = _; simp
  have HGB : Hid (∀ (k : Nat) (h : k < (⟨bs.toArray⟩ : ByteArray).size), (⟨bs.toArray⟩ : ByteArray)[k] = bs.getD k 0) := fun k h => (getD_get ⟨bs.toArray⟩ k h).symm
  generalize (⟨bs.toArray⟩ : ByteArray) = bB at *
  clear h hT
  go_enter Tryz.func204, Tryz.ntmps204
  go_wp2_with fail
  refine ht.mono ?_
  rintro e w1 ⟨rfl, hR, hF, hz⟩
  have HR : Hid (TapeR w1 B S st' vA) := hR
  have HF : Hid (FrameF (· = B) w w1) := hF
  have HZ : Hid (w1.heap.size = w.heap.size) := hz
  clear ht hR hF hz
  go_wp2_with fail
  go_loopw [6, 7] (fun u i wr => ∃ k : Nat, k ≤ bs.length ∧ i = .int .i64 k ∧ u = .int .i64 (numF (bs.take k)) ∧ wr = w1) (fun _ i _ => bs.length - (intOf i).toNat)
  case atStart => exact ⟨0, Nat.zero_le _, rfl, rfl, rfl⟩
  case round =>
    obtain ⟨k, hk, rfl, rfl, rfl⟩ := hrel
    by_cases hlt : k < bs.length
    · have hlti : (k : Int) < (bs.length : Int) := by omega
      have hg := HGB.out k (by omega)
      have HN : Hid (numF (bs.take (k + 1)) = 256 * numF (bs.take k) + (bs.getD k 0).toNat) := numF_take bs k hlt
      have hb1 : numF (bs.take k) < 65536 := by
        have h1 := numF_lt bs k hk
        have h2 : 256 ^ k ≤ 256 ^ 2 := Nat.pow_le_pow_right (by decide) (by omega)
        omega
      have hb2 := (bs.getD k 0).toNat_lt
      generalize numF (bs.take k) = N at *
      generalize bs.getD k 0 = c at *
      go_wp2
      go_roundw
      case rel => exact ⟨k + 1, by omega, by go_num, by rw [HN.out]; go_num, trivial⟩
      case measure => simp [intOf]; omega
    · have HE : Hid (bs.take k = bs) := List.take_of_length_le (by omega)
      have hlti : ¬ (k : Int) < (bs.length : Int) := by omega
      go_wp2
      go_ret
      exact ⟨ret_int (by rw [HE.out]), HR.out, HF.out, HZ.out⟩

end Go.Proofs.YtocbogeoffeolaaGreatDoor

namespace Go.Proofs.YtocbogeoffeolaaGreatDoor
open Go.RowKit

/-- A number of so many bytes; what is left. -/
def numSt (k : Nat) (st : Option Wd) : Nat × Option Wd := (numF (takeS k st).1, (takeS k st).2)
/-- A piece behind its length; what is left. -/
def textSt (st : Option Wd) : Wd × Option Wd := takeS (numSt 1 st).1 (numSt 1 st).2

theorem num_bad (k : Nat) : numSt k none = (0, none) := rfl
theorem text_bad : textSt none = ([], none) := rfl
theorem num1_eq (bs : Wd) : numSt 1 (some bs) = match rdNum bs with
    | some x => (x.1, some x.2)
    | none => (0, none) := by
  cases bs with
  | nil => rfl
  | cons b r => simp [numSt, takeS, rdNum, numF]
theorem num3_eq (bs : Wd) : numSt 3 (some bs) = match rdWeight bs with
    | some x => (x.1, some x.2)
    | none => (0, none) := by
  match bs with
  | [] => rfl
  | [a] => simp [numSt, takeS, rdWeight, numF]
  | [a, b] => simp [numSt, takeS, rdWeight, numF]
  | a :: b :: c :: r =>
    simp [numSt, takeS, rdWeight, numF]
    omega
theorem text_eq (bs : Wd) : textSt (some bs) = match rdText bs with
    | some x => (x.1, some x.2)
    | none => ([], none) := by
  unfold textSt rdText
  rw [num1_eq]
  cases h : rdNum bs with
  | none => rfl
  | some x =>
    simp only [Option.bind_some]
    unfold rdTake
    by_cases hl : x.1 ≤ x.2.length
    · simp [takeS, hl]
    · simp [takeS, hl]
theorem num_small (k : Nat) (st : Option Wd) (hk : k ≤ 3) : (numSt k st).1 < 16777216 := by
  have h1 := numF_lt (takeS k st).1 (takeS k st).1.length (Nat.le_refl _)
  rw [List.take_length] at h1
  have h2 := takeS_len k st
  have h3 : 256 ^ (takeS k st).1.length ≤ 256 ^ 3 := Nat.pow_le_pow_right (by decide) (by omega)
  show numF _ < _
  omega

/-- t.take(t.number(1)). -/
theorem num1_small (st : Option Wd) : (numSt 1 st).1 < 256 := by
  have h1 := numF_lt (takeS 1 st).1 (takeS 1 st).1.length (Nat.le_refl _)
  rw [List.take_length] at h1
  have h2 := takeS_len 1 st
  have h3 : 256 ^ (takeS 1 st).1.length ≤ 256 ^ 1 := Nat.pow_le_pow_right (by decide) h2
  show numF _ < _
  omega

end Go.Proofs.YtocbogeoffeolaaGreatDoor

namespace Go.Proofs.YtocbogeoffeolaaGreatDoor
open Go.RowKit

/-- What is left of the tape; what it has told. -/
abbrev TapeS := Option Wd × List Ent
/-- An entry. -/
def oneS (s : TapeS) : TapeS :=
  ((numSt 1 (numSt 3 (textSt (textSt s.1).2).2).2).2, s.2 ++ [⟨(textSt s.1).1, false, (textSt (textSt s.1).2).1, ((numSt 3 (textSt (textSt s.1).2).2).1 : Int), ((numSt 1 (numSt 3 (textSt (textSt s.1).2).2).2).1 : Int)⟩])
def entsS : Nat → TapeS → TapeS
  | 0, s => s
  | n + 1, s => if s.1 = none then s else entsS n (oneS s)
def kidsS (node : TapeS → TapeS) : Nat → TapeS → TapeS
  | 0, s => s
  | n + 1, s => if s.1 = none then s else kidsS node n (node s)
/-- A node. -/
def treeS : Nat → Nat → TapeS → TapeS
  | 0, _, s => (none, s.2)
  | f + 1, deep, s =>
    let a := (numSt 3 (textSt s.1).2).2
    let n := numSt 1 a
    let d := entsS n.1 (n.2, s.2)
    let e := numSt 1 d.1
    if 0 < e.1 ∧ 30 < deep then (none, d.2) else kidsS (treeS f (deep + 1)) e.1 (e.2, d.2)

theorem ents_bad (n : Nat) (A : List Ent) : entsS n (none, A) = (none, A) := by cases n <;> simp [entsS]
theorem kids_bad (node : TapeS → TapeS) (n : Nat) (A : List Ent) : kidsS node n (none, A) = (none, A) := by cases n <;> simp [kidsS]

theorem ents_eq : ∀ (n : Nat) (bs : Wd) (A : List Ent), match tpEnts n bs with
    | some x => entsS n (some bs, A) = (some x.2, A ++ x.1)
    | none => (entsS n (some bs, A)).1 = none := by
  intro n
  induction n with
  | zero => intro bs A; simp [tpEnts, entsS]
  | succ n ih =>
    intro bs A
    have h0 : entsS (n + 1) (some bs, A) = entsS n (oneS (some bs, A)) := by simp [entsS]
    rw [h0]
    unfold tpEnts oneS
    rw [text_eq]
    cases h1 : rdText bs with
    | none => simp [text_bad, num_bad, ents_bad]
    | some x =>
      simp only [Option.bind_some]
      rw [text_eq]
      cases h2 : rdText x.2 with
      | none => simp [num_bad, ents_bad]
      | some y =>
        simp only [Option.bind_some]
        rw [num3_eq]
        cases h3 : rdWeight y.2 with
        | none => simp [num_bad, ents_bad]
        | some z =>
          simp only [Option.bind_some]
          rw [num1_eq]
          cases h4 : rdNum z.2 with
          | none => simp [ents_bad]
          | some u =>
            simp only [Option.bind_some]
            have h5 := ih u.2 (A ++ [⟨x.1, false, y.1, z.1, u.1⟩])
            cases h6 : tpEnts n u.2 with
            | none => rw [h6] at h5; simpa using h5
            | some v => rw [h6] at h5; simpa using h5

theorem tkids_eq (node : TapeS → TapeS) (nd : Wd → Option (List Ent × Wd)) (hn : ∀ (bs : Wd) (A : List Ent), match nd bs with
    | some x => node (some bs, A) = (some x.2, A ++ x.1)
    | none => (node (some bs, A)).1 = none) : ∀ (n : Nat) (bs : Wd) (A : List Ent), match tpKids nd n bs with
    | some x => kidsS node n (some bs, A) = (some x.2, A ++ x.1)
    | none => (kidsS node n (some bs, A)).1 = none := by
  intro n
  induction n with
  | zero => intro bs A; simp [tpKids, kidsS]
  | succ n ih =>
    intro bs A
    have h0 : kidsS node (n + 1) (some bs, A) = kidsS node n (node (some bs, A)) := by simp [kidsS]
    rw [h0]
    unfold tpKids
    have h1 := hn bs A
    cases h2 : nd bs with
    | none =>
      rw [h2] at h1
      simp only [Option.bind_none]
      rw [show node (some bs, A) = (none, (node (some bs, A)).2) from Prod.ext h1 rfl, kids_bad]
    | some x =>
      rw [h2] at h1
      simp only [Option.bind_some]
      simp only at h1
      rw [h1]
      have h5 := ih x.2 (A ++ x.1)
      cases h6 : tpKids nd n x.2 with
      | none => rw [h6] at h5; simpa using h5
      | some v => rw [h6] at h5; simpa using h5

/-- THE TAPE'S TREE IS tpTree. -/
theorem tree_eq : ∀ (f deep : Nat) (bs : Wd) (A : List Ent), match tpTree f deep bs with
    | some x => treeS f deep (some bs, A) = (some x.2, A ++ x.1)
    | none => (treeS f deep (some bs, A)).1 = none := by
  intro f
  induction f with
  | zero => intro deep bs A; simp [tpTree, treeS]
  | succ f ih =>
    intro deep bs A
    unfold tpTree treeS
    simp only
    rw [text_eq]
    cases h1 : rdText bs with
    | none => simp [num_bad, ents_bad, kids_bad]
    | some a =>
      simp only [Option.bind_some]
      rw [num3_eq]
      cases h2 : rdWeight a.2 with
      | none => simp [num_bad, ents_bad, kids_bad]
      | some b =>
        simp only [Option.bind_some]
        rw [num1_eq]
        cases h3 : rdNum b.2 with
        | none => simp [num_bad, ents_bad, kids_bad]
        | some c =>
          simp only [Option.bind_some]
          have h4 := ents_eq c.1 c.2 A
          cases h5 : tpEnts c.1 c.2 with
          | none =>
            rw [h5] at h4
            simp only [Option.bind_none]
            simp only at h4
            rw [h4, num_bad]
            simp [kids_bad]
          | some d =>
            rw [h5] at h4
            simp only at h4
            simp only [Option.bind_some]
            rw [h4]
            simp only
            rw [num1_eq]
            cases h6 : rdNum d.2 with
            | none => simp [kids_bad]
            | some e =>
              simp only [Option.bind_some]
              by_cases h7 : 0 < e.1 ∧ 30 < deep
              · rw [if_pos h7, if_pos h7]
              · rw [if_neg h7, if_neg h7]
                have h8 := tkids_eq (treeS f (deep + 1)) (tpTree f (deep + 1)) (ih (deep + 1)) e.1 e.2 (A ++ d.1)
                cases h9 : tpKids (tpTree f (deep + 1)) e.1 e.2 with
                | none => rw [h9] at h8; simpa using h8
                | some g => rw [h9] at h8; simpa using h8

end Go.Proofs.YtocbogeoffeolaaGreatDoor

namespace Go.Proofs.YtocbogeoffeolaaGreatDoor
open Go.RowKit

/-- The tape, in memory, with what it has told; all of it lies from 'base' on. -/
def TapeA (base : Nat) (w : World) (B : Nat) (S : ByteArray) (s : TapeS) : Prop := base ≤ B ∧ base ≤ w.heap.size ∧ ∃ vA, TapeR w B S s.1 vA ∧ w.ownsRow base 202 5 vA s.2.length (entVals s.2)

/-- How much is left, a bad tape less than an empty one. -/
def leftS : Option Wd → Nat
  | none => 0
  | some r => r.length + 1
theorem left_take (n : Nat) (st : Option Wd) : leftS (takeS n st).2 ≤ leftS st := by
  cases st with
  | none => exact Nat.le_refl _
  | some r =>
    by_cases h : n ≤ r.length
    · simp [takeS, h, leftS]
    · simp [takeS, h, leftS]
theorem left_num (k : Nat) (st : Option Wd) : leftS (numSt k st).2 ≤ leftS st := left_take k st
theorem left_num1 {st : Option Wd} (h : st ≠ none) : leftS (numSt 1 st).2 + 1 ≤ leftS st := by
  cases st with
  | none => exact absurd rfl h
  | some r =>
    rw [num1_eq]
    cases r with
    | nil => simp [rdNum, leftS]
    | cons b r => simp [rdNum, leftS]
theorem left_text (st : Option Wd) : leftS (textSt st).2 ≤ leftS st := Nat.le_trans (left_take _ _) (left_num 1 st)
theorem left_text1 {st : Option Wd} (h : st ≠ none) : leftS (textSt st).2 + 1 ≤ leftS st := by
  have h1 := left_num1 h
  have h2 := left_take (numSt 1 st).1 (numSt 1 st).2
  unfold textSt
  omega
/-- What has been told and what may yet be. -/
def roomS (s : TapeS) : Nat := s.2.length + leftS s.1
theorem room_one {s : TapeS} (h : s.1 ≠ none) : roomS (oneS s) ≤ roomS s := by
  have h1 := left_text1 h
  have h2 := left_text (textSt s.1).2
  have h3 := left_num 3 (textSt (textSt s.1).2).2
  have h4 := left_num 1 (numSt 3 (textSt (textSt s.1).2).2).2
  unfold roomS oneS
  simp only [List.length_append, List.length_cons, List.length_nil]
  omega

theorem TapeA.turn {base : Nat} {w w' : World} {B : Nat} {S : ByteArray} {s : TapeS} {st' : Option Wd} {vA : Value} (hb : base ≤ B) (hz : base ≤ w.heap.size) (h1 : TapeR w B S s.1 vA) (h2 : w.ownsRow base 202 5 vA s.2.length (entVals s.2)) (hf : FrameF (· = B) w w') (h3 : TapeR w' B S st' vA) :
    TapeA base w' B S (st', s.2) ∧ Below base w w' := by
  obtain ⟨p, hh, _⟩ := h1
  have hne : ∀ k, vA.ownBlock = some k → k ≠ B := fun k hk e => blk_ne_wide hh h2 (by decide) (by rw [hk, e])
  exact ⟨⟨hb, Nat.le_trans hz hf.size, vA, h3, owns_stay_wide h2 (fun k hk => hf.block k (h2.lt k hk).2 (hne k hk))⟩, ⟨hf.os, hf.tape, hf.output, hf.size, fun k hk => hf.block k (by omega) (by omega)⟩⟩

theorem tapeA_take (base B : Nat) (S : ByteArray) (s : TapeS) (n : Nat) (w : World) (h : TapeA base w B S s) (hS : S.size ≤ 1048576) (hn : n ≤ 16777216) :
    Calls Tryz.prog 205 #[.pointer (some ⟨B, 0, none⟩), .int .i64 n] w fun e w' => e = .returned (.string ⟨(takeS n s.1).1.toArray⟩) ∧ TapeA base w' B S ((takeS n s.1).2, s.2) ∧ Below base w w' := by
  obtain ⟨hb, hz, vA, h1, h2⟩ := h
  refine (tape_take B S s.1 vA n w h1 hS hn).mono ?_
  rintro e w' ⟨rfl, h3, hf, _⟩
  exact ⟨rfl, TapeA.turn hb hz h1 h2 hf h3⟩
theorem tapeA_num (base B : Nat) (S : ByteArray) (s : TapeS) (n : Nat) (w : World) (h : TapeA base w B S s) (hS : S.size ≤ 1048576) (hn : n ≤ 3) :
    Calls Tryz.prog 204 #[.pointer (some ⟨B, 0, none⟩), .int .i64 n] w fun e w' => e = .returned (.int .i64 (numSt n s.1).1) ∧ TapeA base w' B S ((numSt n s.1).2, s.2) ∧ Below base w w' := by
  obtain ⟨hb, hz, vA, h1, h2⟩ := h
  refine (tape_number B S s.1 vA n w h1 hS hn).mono ?_
  rintro e w' ⟨rfl, h3, hf, _⟩
  exact ⟨rfl, TapeA.turn hb hz h1 h2 hf h3⟩

end Go.Proofs.YtocbogeoffeolaaGreatDoor

namespace Go.Proofs.YtocbogeoffeolaaGreatDoor
open Go.RowKit

theorem room_left {s : TapeS} {st : Option Wd} (h : leftS st ≤ leftS s.1) : roomS (st, s.2) ≤ roomS s := by unfold roomS; simp only; omega
theorem room_ents : ∀ (n : Nat) (s : TapeS), roomS (entsS n s) ≤ roomS s := by
  intro n
  induction n with
  | zero => intro s; exact Nat.le_refl _
  | succ n ih =>
    intro s
    unfold entsS
    split
    · exact Nat.le_refl _
    · next h => exact Nat.le_trans (ih _) (room_one h)
theorem room_kids {node : TapeS → TapeS} (hn : ∀ s, roomS (node s) ≤ roomS s) : ∀ (n : Nat) (s : TapeS), roomS (kidsS node n s) ≤ roomS s := by
  intro n
  induction n with
  | zero => intro s; exact Nat.le_refl _
  | succ n ih =>
    intro s
    unfold kidsS
    split
    · exact Nat.le_refl _
    · exact Nat.le_trans (ih _) (hn _)
theorem room_tree : ∀ (f deep : Nat) (s : TapeS), roomS (treeS f deep s) ≤ roomS s := by
  intro f
  induction f with
  | zero => intro deep s; exact room_left (Nat.zero_le _)
  | succ f ih =>
    intro deep s
    unfold treeS
    simp only
    have h1 := left_text s.1
    have h2 := left_num 3 (textSt s.1).2
    have h3 := left_num 1 (numSt 3 (textSt s.1).2).2
    have h4 := room_ents (numSt 1 (numSt 3 (textSt s.1).2).2).1 ((numSt 1 (numSt 3 (textSt s.1).2).2).2, s.2)
    have h5 : roomS ((numSt 1 (numSt 3 (textSt s.1).2).2).2, s.2) ≤ roomS s := room_left (by omega)
    generalize entsS (numSt 1 (numSt 3 (textSt s.1).2).2).1 ((numSt 1 (numSt 3 (textSt s.1).2).2).2, s.2) = d at *
    split
    · have : roomS (none, d.2) ≤ roomS d := room_left (Nat.zero_le _)
      omega
    · have h6 := room_kids (ih (deep + 1)) (numSt 1 d.1).1 ((numSt 1 d.1).2, d.2)
      have h7 : roomS ((numSt 1 d.1).2, d.2) ≤ roomS d := room_left (left_num 1 d.1)
      omega

end Go.Proofs.YtocbogeoffeolaaGreatDoor

namespace Go.Proofs.YtocbogeoffeolaaGreatDoor
open Go.RowKit

def oneG (s : TapeS) : TapeS := ((textSt s.1).2, s.2 ++ [⟨(textSt s.1).1, true, [], 0, 0⟩])
def goneS : Nat → TapeS → TapeS
  | 0, s => s
  | n + 1, s => if s.1 = none then s else goneS n (oneG s)
def segS (bs : Wd) : Nat × TapeS := ((numSt 1 (some bs)).1, treeS 32 0 (goneS (numSt 1 (some bs)).1 ((numSt 1 (some bs)).2, [])))

theorem gone_bad (n : Nat) (A : List Ent) : goneS n (none, A) = (none, A) := by cases n <;> simp [goneS]
theorem gone_eq : ∀ (n : Nat) (bs : Wd) (A : List Ent), match tpGone n bs with
    | some x => goneS n (some bs, A) = (some x.2, A ++ x.1)
    | none => (goneS n (some bs, A)).1 = none := by
  intro n
  induction n with
  | zero => intro bs A; simp [tpGone, goneS]
  | succ n ih =>
    intro bs A
    have h0 : goneS (n + 1) (some bs, A) = goneS n (oneG (some bs, A)) := by simp [goneS]
    rw [h0]
    unfold tpGone oneG
    rw [text_eq]
    cases h1 : rdText bs with
    | none => simp [gone_bad]
    | some x =>
      simp only [Option.bind_some]
      have h5 := ih x.2 (A ++ [⟨x.1, true, [], 0, 0⟩])
      cases h6 : tpGone n x.2 with
      | none => rw [h6] at h5; simpa using h5
      | some v => rw [h6] at h5; simpa using h5
theorem tree_bad (f deep : Nat) (A : List Ent) : (treeS f deep (none, A)).1 = none := by
  cases f with
  | zero => rfl
  | succ f =>
    unfold treeS
    simp only [text_bad, num_bad, ents_bad]
    split
    · rfl
    · rw [kids_bad]
theorem seg_eq (bs : Wd) : match tpSeg bs with
    | some x => segS bs = (x.1, some x.2.2, x.2.1)
    | none => (segS bs).2.1 = none := by
  unfold tpSeg segS
  rw [num1_eq]
  cases h1 : rdNum bs with
  | none =>
    simp only [Option.bind_none]
    rw [gone_bad]
    exact tree_bad _ _ _
  | some a =>
    simp only [Option.bind_some]
    have h2 := gone_eq a.1 a.2 []
    cases h3 : tpGone a.1 a.2 with
    | none =>
      rw [h3] at h2
      simp only [Option.bind_none]
      simp only at h2
      rw [show goneS a.1 (some a.2, []) = (none, (goneS a.1 (some a.2, [])).2) from Prod.ext h2 rfl]
      exact tree_bad _ _ _
    | some b =>
      rw [h3] at h2
      simp only [List.nil_append] at h2
      simp only [Option.bind_some]
      rw [h2]
      have h4 := tree_eq 32 0 b.2 b.1
      cases h5 : tpTree 32 0 b.2 with
      | none => rw [h5] at h4; simpa using h4
      | some c => rw [h5] at h4; simp only at h4; simp only [Option.bind_some]; rw [h4]
theorem room_oneG {s : TapeS} (h : s.1 ≠ none) : roomS (oneG s) ≤ roomS s := by
  have h1 := left_text1 h
  unfold roomS oneG
  simp only [List.length_append, List.length_cons, List.length_nil]
  omega
/-- What the document takes, in the tape's words. -/
theorem unpack_tape (bs : Wd) : unpackL bs = if 4000 < bs.length then none
    else match (segS bs).2.1 with
      | none => none
      | some r => if r ≠ [] ∨ (segS bs).2.2.length = 0 ∨ 100 < (segS bs).1 ∨ 30 < ((segS bs).2.2.length : Int) - (segS bs).1 then none
        else if ∀ i, (h : i < (segS bs).2.2.length) → sound1 (segS bs).2.2 i (segS bs).2.2[i] = true then (if packR (segS bs).2.2 = bs then some (segS bs).2.2 else none) else none := by
  unfold unpackL
  split
  · rfl
  · have h := seg_eq bs
    cases h1 : tpSeg bs with
    | none => rw [h1] at h; simp only at h; rw [h]
    | some x =>
      rw [h1] at h
      simp only at h
      obtain ⟨n, l, r⟩ := x
      simp only at h
      rw [h]

/-- What a tape tells is small. -/
def okT (e : Ent) : Prop := e.name.length ≤ 255 ∧ e.text.length ≤ 255 ∧ (0 ≤ e.weight ∧ e.weight ≤ 16777215) ∧ 0 ≤ e.tags ∧ e.tags ≤ 255
def okS (s : TapeS) : Prop := ∀ e ∈ s.2, okT e
theorem text_small (st : Option Wd) : (textSt st).1.length ≤ 255 := by
  have h1 := num1_small st
  have h2 := takeS_len (numSt 1 st).1 (numSt 1 st).2
  unfold textSt
  omega
theorem ok_one {s : TapeS} (h : okS s) : okS (oneS s) := by
  intro e he
  unfold oneS at he
  rcases List.mem_append.1 he with h1 | h1
  · exact h e h1
  · simp only [List.mem_cons, List.not_mem_nil, or_false] at h1
    subst h1
    have h2 := num_small 3 (textSt (textSt s.1).2).2 (by omega)
    have h3 := num1_small (numSt 3 (textSt (textSt s.1).2).2).2
    exact ⟨text_small _, text_small _, ⟨by simp only; omega, by simp only; omega⟩, by simp only; omega, by simp only; omega⟩
theorem ok_oneG {s : TapeS} (h : okS s) : okS (oneG s) := by
  intro e he
  unfold oneG at he
  rcases List.mem_append.1 he with h1 | h1
  · exact h e h1
  · simp only [List.mem_cons, List.not_mem_nil, or_false] at h1
    subst h1
    exact ⟨text_small _, by simp, ⟨by simp, by simp⟩, by simp, by simp⟩
theorem ok_ents : ∀ (n : Nat) (s : TapeS), okS s → okS (entsS n s) := by
  intro n
  induction n with
  | zero => intro s h; exact h
  | succ n ih =>
    intro s h
    unfold entsS
    split
    · exact h
    · exact ih _ (ok_one h)
theorem ok_gone : ∀ (n : Nat) (s : TapeS), okS s → okS (goneS n s) := by
  intro n
  induction n with
  | zero => intro s h; exact h
  | succ n ih =>
    intro s h
    unfold goneS
    split
    · exact h
    · exact ih _ (ok_oneG h)
theorem ok_kids {node : TapeS → TapeS} (hn : ∀ s, okS s → okS (node s)) : ∀ (n : Nat) (s : TapeS), okS s → okS (kidsS node n s) := by
  intro n
  induction n with
  | zero => intro s h; exact h
  | succ n ih =>
    intro s h
    unfold kidsS
    split
    · exact h
    · exact ih _ (hn _ h)
theorem ok_tree : ∀ (f deep : Nat) (s : TapeS), okS s → okS (treeS f deep s) := by
  intro f
  induction f with
  | zero => intro deep s h; exact h
  | succ f ih =>
    intro deep s h
    unfold treeS
    have h1 : okS (entsS (numSt 1 (numSt 3 (textSt s.1).2).2).1 ((numSt 1 (numSt 3 (textSt s.1).2).2).2, s.2)) := ok_ents _ _ h
    simp only
    split
    · exact h1
    · exact ok_kids (ih (deep + 1)) _ _ h1
theorem ok_seg (bs : Wd) : okS (segS bs).2 := ok_tree _ _ _ (ok_gone _ _ (fun e he => by simp at he))
theorem RdW.takeE {w : World} {a : Option Addr} {n cap : Nat} {A : List Ent} (h : RdW w 5 (.slice a n cap) n (entVals A)) (k : Nat) (hk : k ≤ A.length) (hn : n = A.length) : RdW w 5 (.slice a k cap) k (entVals (A.take k)) := by
  obtain ⟨a', cap', he, h1, h2, h3, h4⟩ := h
  simp only [Value.slice.injEq] at he
  obtain ⟨rfl, _, rfl⟩ := he
  have e1 : entVals (A.take k) = (entVals A).take (k * 5) := by
    clear h3 h4 hn
    induction A generalizing k with
    | nil => simp [entVals]
    | cons e A ih =>
      cases k with
      | zero => simp [entVals]
      | succ k =>
        have := ih k (by simpa using hk)
        simp only [entVals, List.take_succ_cons, List.flatMap_cons] at this ⊢
        rw [this, show (k + 1) * 5 = k * 5 + 5 by omega]
        simp [entCells]
  refine ⟨a, cap, rfl, by omega, h2, ?_, fun j u hj => ?_⟩
  · rw [e1, List.length_take, h3]; omega
  · rw [e1, List.getElem?_take] at hj
    split at hj
    · exact h4 j u hj
    · cases hj

end Go.Proofs.YtocbogeoffeolaaGreatDoor

