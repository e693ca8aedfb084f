/-
  WALKS: the document's own answer: node. (Made by wip/mknode.py.)
-/
import Derived.Test.YtocbogeoffeolaaGreatDoorSegAO
namespace Go.Proofs.YtocbogeoffeolaaGreatDoor
open Go.RowKit

set_option maxHeartbeats 20000000 in
set_option maxRecDepth 100000 in
theorem node_any (l : List Ent) (hr : ∀ e ∈ l, rawOk e) (hlen : l.length ≤ 1048576) : ∀ (f : Nat) (p a : ByteArray) (v : Value) (w : World), f ≤ 2097152 → RdW w 5 v l.length (entVals l) → (∀ e ∈ l, (keyE e).length ≤ f + p.size) → a.size ≤ p.size → p.size ≤ 1073741824 →
    Calls Tryz.prog 150 #[v, .string p, .string a] w fun e w' => e = .returned (.string ⟨(nodeL (f + 1) l p.data.toList a.data.toList).toArray⟩) ∧ Below w.heap.size w w' := by
  intro f
  induction f using Nat.strongRecOn with
  | ind f ih =>
  intro p ah v w hf20 hv hdeep hah hps
  have hl20 := hlen
  obtain ⟨a, cap, rfl, hc, hm, _, _⟩ := id hv
  have HV : Hid (RdW w 5 (.slice a l.length cap) l.length (entVals l)) := hv
  have HT : Hid (∀ e ∈ l, rawOk e) := hr
  have HD : Hid (∀ e ∈ l, (keyE e).length ≤ f + p.size) := hdeep
  have HI : Hid (∀ g, g < f → ∀ (p a : ByteArray) (v : Value) (w : World), g ≤ 2097152 → RdW w 5 v l.length (entVals l) → (∀ e ∈ l, (keyE e).length ≤ g + p.size) → a.size ≤ p.size → p.size ≤ 1073741824 →
    Calls Tryz.prog 150 #[v, .string p, .string a] w fun e w' => e = .returned (.string ⟨(nodeL (g + 1) l p.data.toList a.data.toList).toArray⟩) ∧ Below w.heap.size w w') := ih
  clear hv hr hdeep ih
  unfold maxLen at hm
  go_enter Tryz.func150, Tryz.ntmps150
  go_wp2
  go_loopw [7, 8, 9, 11] (fun g o c i wr => ∃ (k : Nat) (ob : ByteArray), k ≤ l.length ∧ i = .int .i64 k ∧ g = .int .i64 (maxW (atP (l.take k) p.data.toList)) ∧ o = .string ob ∧ ob.data.toList = (ownP (l.take k) p.data.toList).flatMap entB ∧ c = .int .i64 (ownP (l.take k) p.data.toList).length ∧ NodeAt w wr (childTo l p.data.toList k) ∧ Below w.heap.size w wr) (fun _ _ _ i _ => l.length - (intOf i).toNat)
  case atStart => exact ⟨0, ⟨#[]⟩, Nat.zero_le _, rfl, rfl, rfl, rfl, rfl, by unfold NodeAt; rw [← ch_zero]; exact heap_alloc_new w _, (Below.refl _ _).alloc (Nat.le_refl _) _⟩
  case round =>
    obtain ⟨k, ob, hk, rfl, rfl, rfl, hob, rfl, hnd, hbel⟩ := hrel
    have HO : Hid (ob.data.toList = (ownP (l.take k) p.data.toList).flatMap entB) := hob
    have HN : Hid (NodeAt w wr (childTo l p.data.toList k)) := hnd
    clear hob hnd
    have HS := hbel.size
    have hobs : ob.size ≤ k * 2097160 := own_size HT.out HO.out
    have hol : (ownP (l.take k) p.data.toList).length ≤ k := by
      have := List.length_filter_le (fun e => keyE e == p.data.toList) (l.take k)
      unfold ownP
      simp at this ⊢; omega
    by_cases hlt : k < l.length
    · obtain ⟨b, off, rfl, c0, c1, c2, c3, c4⟩ := ent_cells (HV.out.below hbel) k hlt
      obtain ⟨r1, r2, ⟨r3, r4⟩, r5, r6⟩ := HT.out l[k] (List.getElem_mem hlt)
      have htl : (⟨l[k].text.toArray⟩ : ByteArray).size ≤ 1099511627776 := by
        show l[k].text.toArray.size ≤ _
        simp; omega
      go_wp2_with fail
      refine (fold_any _ _ htl).mono ?_
      rintro e w1 ⟨rfl, hb1⟩
      obtain ⟨kb, hkb⟩ : ∃ kb : ByteArray, kb = ⟨(keyE l[k]).toArray⟩ := ⟨_, rfl⟩
      have hkb2 : (⟨(foldL (⟨l[k].text.toArray⟩ : ByteArray).data.toList).toArray⟩ : ByteArray) = kb := by rw [hkb]; rfl
      have HK : Hid (kb.data.toList = keyE l[k]) := by show _ = _; rw [hkb]
      have hkbs : kb.size ≤ 1048576 := by
        rw [hkb]
        show (keyE l[k]).toArray.size ≤ _
        unfold keyE
        rw [List.size_toArray, foldL_length]; omega
      rw [hkb2]
      clear hkb hkb2
      have hb2 : Below w.heap.size w w1 := hbel.trans (hb1.mono HS)
      have HN1 : Hid (NodeAt w w1 (childTo l p.data.toList k)) := HN.out.ext hb1
      have d0 := cell_later hb1 c0
      have d2 := cell_later hb1 c2
      have d3 := cell_later hb1 c3
      have d4 := cell_later hb1 c4
      clear c0 c1 c2 c3 c4 HN
      go_wp2_with fail
      refine (begins_any kb p w1).mono ?_
      rintro e w2 ⟨rfl, rfl⟩
      cases hbg : begB kb.data.toList p.data.toList with
      | false =>
        have hB : begB (keyE l[k]) p.data.toList = false := by rw [← HK.out]; exact hbg
        obtain ⟨s1, s2, s3⟩ := atP_snoc_no hlt hB
        have HX : Hid (atP (l.take (k + 1)) p.data.toList = atP (l.take k) p.data.toList ∧ ownP (l.take (k + 1)) p.data.toList = ownP (l.take k) p.data.toList ∧ childTo l p.data.toList (k + 1) = childTo l p.data.toList k) := ⟨s1, s2, s3⟩
        clear hbg hB s1 s2 s3
        go_wp2
        go_roundw
        case rel => exact ⟨k + 1, ob, by omega, by go_num, by rw [HX.out.1], rfl, by rw [HX.out.2.1]; exact HO.out, by rw [HX.out.2.1], by rw [HX.out.2.2]; exact HN1.out, hb2⟩
        case measure => simp [intOf]; omega
      | true =>
        have HB : Hid (begB (keyE l[k]) p.data.toList = true) := by show _ = _; rw [← HK.out]; exact hbg
        have hmp := maxW_pos (atP (l.take k) p.data.toList)
        by_cases hsp : kb.data.toList = p.data.toList
        · have hsq : (kb.toList == p.toList) = true := by rw [ByteArray.toList_eq, ByteArray.toList_eq, hsp]; simp
          by_cases hw : maxW (atP (l.take k) p.data.toList) < l[k].weight
          · skip
            obtain ⟨s1, s2, s3⟩ := atP_snoc_own hlt (p := p.data.toList) (by rw [← HK.out]; exact hsp)
            have HX : Hid (maxW (atP (l.take (k + 1)) p.data.toList) = l[k].weight ∧ ownP (l.take (k + 1)) p.data.toList = ownP (l.take k) p.data.toList ++ [l[k]] ∧ childTo l p.data.toList (k + 1) = childTo l p.data.toList k) := by
              refine ⟨?_, s2, s3⟩
              rw [s1, maxW_snoc]
              rw [if_pos hw]
            clear hbg hsp s1 s2 s3
            obtain ⟨P1, g1, C1⟩ := piece_let l[k].name r1
            obtain ⟨P2, g2, C2⟩ := piece_let l[k].text r2
            obtain ⟨P3, g3, C3⟩ := three_let l[k].weight r3 r4
            have HC1 : Hid (∀ w : World, Calls Tryz.prog 149 #[.string ⟨l[k].name.toArray⟩] w fun e w' => e = .returned (.string P1) ∧ Ext w w') := C1
            have HC2 : Hid (∀ w : World, Calls Tryz.prog 149 #[.string ⟨l[k].text.toArray⟩] w fun e w' => e = .returned (.string P2) ∧ Ext w w') := C2
            have HC3 : Hid (∀ w : World, Calls Tryz.prog 202 #[.int .i64 l[k].weight] w fun e w' => e = .returned (.string P3) ∧ Ext w w') := C3
            clear C1 C2 C3
            have HG : Hid (P1.data.toList = pieceL l[k].name ∧ P2.data.toList = pieceL l[k].text ∧ P3.data.toList = threeL l[k].weight) := ⟨g1.1, g2.1, g3.1⟩
            have p1 := g1.2
            have p2 := g2.2
            have p3 := g3.2
            clear g1 g2 g3
            have f2 : (ob ++ P1).size = ob.size + P1.size := ByteArray.size_append
            have f3 : (ob ++ P1 ++ P2).size = ob.size + P1.size + P2.size := by rw [ByteArray.size_append, ByteArray.size_append]
            have f4 : (ob ++ P1 ++ P2 ++ P3).size = ob.size + P1.size + P2.size + P3.size := by rw [ByteArray.size_append, ByteArray.size_append, ByteArray.size_append]
            have hq1 : ¬ (9223372036854775807 < ob.size + P1.size) := by omega
            have hq2 : ¬ (9223372036854775807 < ob.size + P1.size + P2.size) := by omega
            have hq3 : ¬ (9223372036854775807 < ob.size + P1.size + P2.size + 3) := by omega
            have hq4 : ¬ (9223372036854775807 < ob.size + P1.size + P2.size + 3 + 1) := by omega
            have hki : (k : Int) < (l.length : Int) := by omega
            have HB2 : Hid (Below w.heap.size w w1) := hb2
            have HDI := HD
            have HII := HI
            clear HD HI hb1 hbel
            go_wp2_with fail
            refine wp_region_X (by kernel_rfl) ?_
            refine WX_take (i := 0) (v := ?_) rfl (by kernel_rfl) (by kernel_rfl) (by kernel_rfl) (stable_ext _) (by rfl) ?_ ?_
            rotate_left
            · intro y hy; unfold jAt; go_simp; refine ⟨Ext.refl _, ?_⟩; with_reducible rfl
            refine WX_take (i := 1) (v := ?_) rfl (by kernel_rfl) (by kernel_rfl) (by kernel_rfl) (stable_ext _) (by rfl) ?_ ?_
            rotate_left
            · intro y hy; unfold jAt; go_simp; refine ⟨Ext.refl _, ?_⟩; with_reducible rfl
            refine WX_take (i := 2) (v := ?_) rfl (by kernel_rfl) (by kernel_rfl) (by kernel_rfl) (stable_ext _) (by rfl) ?_ ?_
            rotate_left
            · intro y hy; unfold jAt; go_simp; refine ⟨Ext.refl _, ?_⟩; with_reducible rfl
            refine WX_take (i := 3) (v := ?_) rfl (by kernel_rfl) (by kernel_rfl) (by kernel_rfl) (stable_ext _) (by rfl) ?_ ?_
            rotate_left
            · intro y hy; unfold jAt; go_simp; refine ⟨Ext.refl _, ?_⟩; with_reducible rfl
            refine WX_take (i := 4) (v := ?_) rfl (by kernel_rfl) (by kernel_rfl) (by kernel_rfl) (stable_ext _) (by rfl) ?_ ?_
            rotate_left
            · intro y hy; unfold jAt; go_simp; refine ⟨Ext.refl _, ?_⟩; with_reducible rfl
            refine WX_take (i := 5) (v := ?_) rfl (by kernel_rfl) (by kernel_rfl) (by kernel_rfl) (stable_ext _) (by rfl) ?_ ?_
            rotate_left
            · intro y hy; have q := cell_later hy d0; unfold jAt; go_simp; refine ⟨Ext.refl _, ?_⟩; with_reducible rfl
            refine WX_take (i := 6) (v := ?_) rfl (by kernel_rfl) (by kernel_rfl) (by kernel_rfl) (stable_ext _) (by rfl) ?_ ?_
            rotate_left
            · intro y hy; unfold jAt; go_simp; refine ⟨rfl, (HC1.out y).mono ?_⟩; rintro e y2 ⟨rfl, h2⟩; refine ⟨_, rfl, h2, ?_⟩; with_reducible rfl
            refine WX_take (i := 7) (v := ?_) rfl (by kernel_rfl) (by kernel_rfl) (by kernel_rfl) (stable_ext _) (by rfl) ?_ ?_
            rotate_left
            · intro y hy; unfold jAt; go_simp; refine ⟨Ext.refl _, ?_⟩; with_reducible rfl
            refine WX_take (i := 8) (v := ?_) rfl (by kernel_rfl) (by kernel_rfl) (by kernel_rfl) (stable_ext _) (by rfl) ?_ ?_
            rotate_left
            · intro y hy; unfold jAt; go_simp; refine ⟨Ext.refl _, ?_⟩; with_reducible rfl
            refine WX_take (i := 9) (v := ?_) rfl (by kernel_rfl) (by kernel_rfl) (by kernel_rfl) (stable_ext _) (by rfl) ?_ ?_
            rotate_left
            · intro y hy; unfold jAt; go_simp; refine ⟨Ext.refl _, ?_⟩; with_reducible rfl
            refine WX_take (i := 10) (v := ?_) rfl (by kernel_rfl) (by kernel_rfl) (by kernel_rfl) (stable_ext _) (by rfl) ?_ ?_
            rotate_left
            · intro y hy; unfold jAt; go_simp; refine ⟨Ext.refl _, ?_⟩; with_reducible rfl
            refine WX_take (i := 11) (v := ?_) rfl (by kernel_rfl) (by kernel_rfl) (by kernel_rfl) (stable_ext _) (by rfl) ?_ ?_
            rotate_left
            · intro y hy; unfold jAt; go_simp; refine ⟨Ext.refl _, ?_⟩; with_reducible rfl
            refine WX_take (i := 12) (v := ?_) rfl (by kernel_rfl) (by kernel_rfl) (by kernel_rfl) (stable_ext _) (by rfl) ?_ ?_
            rotate_left
            · intro y hy; have q := cell_later hy d2; unfold jAt; go_simp; refine ⟨Ext.refl _, ?_⟩; with_reducible rfl
            refine WX_take (i := 13) (v := ?_) rfl (by kernel_rfl) (by kernel_rfl) (by kernel_rfl) (stable_ext _) (by rfl) ?_ ?_
            rotate_left
            · intro y hy; unfold jAt; go_simp; refine ⟨rfl, (HC2.out y).mono ?_⟩; rintro e y2 ⟨rfl, h2⟩; refine ⟨_, rfl, h2, ?_⟩; with_reducible rfl
            refine WX_take (i := 14) (v := ?_) rfl (by kernel_rfl) (by kernel_rfl) (by kernel_rfl) (stable_ext _) (by rfl) ?_ ?_
            rotate_left
            · intro y hy; unfold jAt; go_simp; refine ⟨Ext.refl _, ?_⟩; with_reducible rfl
            refine WX_take (i := 15) (v := ?_) rfl (by kernel_rfl) (by kernel_rfl) (by kernel_rfl) (stable_ext _) (by rfl) ?_ ?_
            rotate_left
            · intro y hy; unfold jAt; go_simp; refine ⟨Ext.refl _, ?_⟩; with_reducible rfl
            refine WX_take (i := 16) (v := ?_) rfl (by kernel_rfl) (by kernel_rfl) (by kernel_rfl) (stable_ext _) (by rfl) ?_ ?_
            rotate_left
            · intro y hy; unfold jAt; go_simp; refine ⟨Ext.refl _, ?_⟩; with_reducible rfl
            refine WX_take (i := 17) (v := ?_) rfl (by kernel_rfl) (by kernel_rfl) (by kernel_rfl) (stable_ext _) (by rfl) ?_ ?_
            rotate_left
            · intro y hy; unfold jAt; go_simp; refine ⟨Ext.refl _, ?_⟩; with_reducible rfl
            refine WX_take (i := 18) (v := ?_) rfl (by kernel_rfl) (by kernel_rfl) (by kernel_rfl) (stable_ext _) (by rfl) ?_ ?_
            rotate_left
            · intro y hy; unfold jAt; go_simp; refine ⟨Ext.refl _, ?_⟩; with_reducible rfl
            refine WX_take (i := 19) (v := ?_) rfl (by kernel_rfl) (by kernel_rfl) (by kernel_rfl) (stable_ext _) (by rfl) ?_ ?_
            rotate_left
            · intro y hy; have q := cell_later hy d3; unfold jAt; go_simp; refine ⟨Ext.refl _, ?_⟩; with_reducible rfl
            refine WX_take (i := 20) (v := ?_) rfl (by kernel_rfl) (by kernel_rfl) (by kernel_rfl) (stable_ext _) (by rfl) ?_ ?_
            rotate_left
            · intro y hy; unfold jAt; go_simp; refine ⟨rfl, (HC3.out y).mono ?_⟩; rintro e y2 ⟨rfl, h2⟩; refine ⟨_, rfl, h2, ?_⟩; with_reducible rfl
            refine WX_take (i := 21) (v := ?_) rfl (by kernel_rfl) (by kernel_rfl) (by kernel_rfl) (stable_ext _) (by rfl) ?_ ?_
            rotate_left
            · intro y hy; unfold jAt; go_simp; refine ⟨Ext.refl _, ?_⟩; with_reducible rfl
            refine WX_take (i := 22) (v := ?_) rfl (by kernel_rfl) (by kernel_rfl) (by kernel_rfl) (stable_ext _) (by rfl) ?_ ?_
            rotate_left
            · intro y hy; unfold jAt; go_simp; refine ⟨Ext.refl _, ?_⟩; with_reducible rfl
            refine WX_take (i := 23) (v := ?_) rfl (by kernel_rfl) (by kernel_rfl) (by kernel_rfl) (stable_ext _) (by rfl) ?_ ?_
            rotate_left
            · intro y hy; unfold jAt; go_simp; refine ⟨Ext.refl _, ?_⟩; with_reducible rfl
            refine WX_take (i := 24) (v := ?_) rfl (by kernel_rfl) (by kernel_rfl) (by kernel_rfl) (stable_ext _) (by rfl) ?_ ?_
            rotate_left
            · intro y hy; unfold jAt; go_simp; refine ⟨Ext.refl _, ?_⟩; with_reducible rfl
            refine WX_take (i := 25) (v := ?_) rfl (by kernel_rfl) (by kernel_rfl) (by kernel_rfl) (stable_ext _) (by rfl) ?_ ?_
            rotate_left
            · intro y hy; unfold jAt; go_simp; refine ⟨Ext.refl _, ?_⟩; with_reducible rfl
            refine WX_take (i := 26) (v := ?_) rfl (by kernel_rfl) (by kernel_rfl) (by kernel_rfl) (stable_ext _) (by rfl) ?_ ?_
            rotate_left
            · intro y hy; have q := cell_later hy d4; unfold jAt; go_simp; refine ⟨Ext.refl _, ?_⟩; with_reducible rfl
            refine WX_take (i := 27) (v := ?_) rfl (by kernel_rfl) (by kernel_rfl) (by kernel_rfl) (stable_ext _) (by rfl) ?_ ?_
            rotate_left
            · intro y hy; unfold jAt; go_simp; refine ⟨Ext.refl _, ?_⟩; with_reducible rfl
            refine WX_all (rs := [28]) (by kernel_rfl) (by simp) ?_
            intro i hi
            simp only [List.mem_singleton] at hi
            subst hi
            refine JOp_new (fun g => (.slice (some ⟨g, 0, none⟩) 1 1 : Value)) (fun g y => y.cell? ⟨g, 0, none⟩ = some (.int .u8 (IntKind.u8.wrap l[k].tags))) rfl (stable_ext _) (fun g => (stable_cell _ _)) (by rfl) ?_ ?_
            · intro y hy; unfold jAt; go_simp; exact ⟨Ext.alloc _ _, rfl, by rw [World.cell?_alloc_at _ _ _ _ rfl]; rfl⟩
            intro g
            refine WX_take (i := 29) (v := ?_) rfl (by kernel_rfl) (by kernel_rfl) (by kernel_rfl) ((stable_ext _).and (stable_cell _ _)) (by rfl) ?_ ?_
            rotate_left
            · intro y hy; have q := conv_one' hy.2; unfold jAt; go_simp; refine ⟨Ext.refl _, ?_⟩; with_reducible rfl
            refine WX_take (i := 30) (v := ?_) rfl (by kernel_rfl) (by kernel_rfl) (by kernel_rfl) ((stable_ext _).and (stable_cell _ _)) (by rfl) ?_ ?_
            rotate_left
            · intro y hy; unfold jAt; go_simp; refine ⟨Ext.refl _, ?_⟩; with_reducible rfl
            refine WX_take (i := 31) (v := ?_) rfl (by kernel_rfl) (by kernel_rfl) (by kernel_rfl) ((stable_ext _).and (stable_cell _ _)) (by rfl) ?_ ?_
            rotate_left
            · intro y hy; unfold jAt; go_simp; refine ⟨Ext.refl _, ?_⟩; with_reducible rfl
            refine WX_done (by kernel_rfl) ?_ _
            intro y hy
            have HBy : Hid (Below w.heap.size w y) := HB2.out.trans (Below.mono hy.1 HB2.out.size)
            have HNy : Hid (NodeAt w y (childTo l p.data.toList k)) := HN1.out.ext hy.1
            clear hy
            have HD := HDI
            have HI := HII
            go_wp2
            go_roundw
            case rel =>
              refine ⟨k + 1, _, by omega, by go_num, by rw [HX.out.1], rfl, ?_, ?_, by rw [HX.out.2.2]; exact HNy.out, HBy.out⟩
              · rw [HX.out.2.1]; exact own_snoc HO.out HG.out
              · rw [HX.out.2.1, List.length_append]; go_num
            case measure => simp [intOf]; omega
          · skip
            obtain ⟨s1, s2, s3⟩ := atP_snoc_own hlt (p := p.data.toList) (by rw [← HK.out]; exact hsp)
            have HX : Hid (maxW (atP (l.take (k + 1)) p.data.toList) = maxW (atP (l.take k) p.data.toList) ∧ ownP (l.take (k + 1)) p.data.toList = ownP (l.take k) p.data.toList ++ [l[k]] ∧ childTo l p.data.toList (k + 1) = childTo l p.data.toList k) := by
              refine ⟨?_, s2, s3⟩
              rw [s1, maxW_snoc]
              rw [if_neg hw]
            clear hbg hsp s1 s2 s3
            obtain ⟨P1, g1, C1⟩ := piece_let l[k].name r1
            obtain ⟨P2, g2, C2⟩ := piece_let l[k].text r2
            obtain ⟨P3, g3, C3⟩ := three_let l[k].weight r3 r4
            have HC1 : Hid (∀ w : World, Calls Tryz.prog 149 #[.string ⟨l[k].name.toArray⟩] w fun e w' => e = .returned (.string P1) ∧ Ext w w') := C1
            have HC2 : Hid (∀ w : World, Calls Tryz.prog 149 #[.string ⟨l[k].text.toArray⟩] w fun e w' => e = .returned (.string P2) ∧ Ext w w') := C2
            have HC3 : Hid (∀ w : World, Calls Tryz.prog 202 #[.int .i64 l[k].weight] w fun e w' => e = .returned (.string P3) ∧ Ext w w') := C3
            clear C1 C2 C3
            have HG : Hid (P1.data.toList = pieceL l[k].name ∧ P2.data.toList = pieceL l[k].text ∧ P3.data.toList = threeL l[k].weight) := ⟨g1.1, g2.1, g3.1⟩
            have p1 := g1.2
            have p2 := g2.2
            have p3 := g3.2
            clear g1 g2 g3
            have f2 : (ob ++ P1).size = ob.size + P1.size := ByteArray.size_append
            have f3 : (ob ++ P1 ++ P2).size = ob.size + P1.size + P2.size := by rw [ByteArray.size_append, ByteArray.size_append]
            have f4 : (ob ++ P1 ++ P2 ++ P3).size = ob.size + P1.size + P2.size + P3.size := by rw [ByteArray.size_append, ByteArray.size_append, ByteArray.size_append]
            have hq1 : ¬ (9223372036854775807 < ob.size + P1.size) := by omega
            have hq2 : ¬ (9223372036854775807 < ob.size + P1.size + P2.size) := by omega
            have hq3 : ¬ (9223372036854775807 < ob.size + P1.size + P2.size + 3) := by omega
            have hq4 : ¬ (9223372036854775807 < ob.size + P1.size + P2.size + 3 + 1) := by omega
            have hki : (k : Int) < (l.length : Int) := by omega
            have HB2 : Hid (Below w.heap.size w w1) := hb2
            have HDI := HD
            have HII := HI
            clear HD HI hb1 hbel
            go_wp2_with fail
            refine wp_region_X (by kernel_rfl) ?_
            refine WX_take (i := 0) (v := ?_) rfl (by kernel_rfl) (by kernel_rfl) (by kernel_rfl) (stable_ext _) (by rfl) ?_ ?_
            rotate_left
            · intro y hy; unfold jAt; go_simp; refine ⟨Ext.refl _, ?_⟩; with_reducible rfl
            refine WX_take (i := 1) (v := ?_) rfl (by kernel_rfl) (by kernel_rfl) (by kernel_rfl) (stable_ext _) (by rfl) ?_ ?_
            rotate_left
            · intro y hy; unfold jAt; go_simp; refine ⟨Ext.refl _, ?_⟩; with_reducible rfl
            refine WX_take (i := 2) (v := ?_) rfl (by kernel_rfl) (by kernel_rfl) (by kernel_rfl) (stable_ext _) (by rfl) ?_ ?_
            rotate_left
            · intro y hy; unfold jAt; go_simp; refine ⟨Ext.refl _, ?_⟩; with_reducible rfl
            refine WX_take (i := 3) (v := ?_) rfl (by kernel_rfl) (by kernel_rfl) (by kernel_rfl) (stable_ext _) (by rfl) ?_ ?_
            rotate_left
            · intro y hy; unfold jAt; go_simp; refine ⟨Ext.refl _, ?_⟩; with_reducible rfl
            refine WX_take (i := 4) (v := ?_) rfl (by kernel_rfl) (by kernel_rfl) (by kernel_rfl) (stable_ext _) (by rfl) ?_ ?_
            rotate_left
            · intro y hy; unfold jAt; go_simp; refine ⟨Ext.refl _, ?_⟩; with_reducible rfl
            refine WX_take (i := 5) (v := ?_) rfl (by kernel_rfl) (by kernel_rfl) (by kernel_rfl) (stable_ext _) (by rfl) ?_ ?_
            rotate_left
            · intro y hy; have q := cell_later hy d0; unfold jAt; go_simp; refine ⟨Ext.refl _, ?_⟩; with_reducible rfl
            refine WX_take (i := 6) (v := ?_) rfl (by kernel_rfl) (by kernel_rfl) (by kernel_rfl) (stable_ext _) (by rfl) ?_ ?_
            rotate_left
            · intro y hy; unfold jAt; go_simp; refine ⟨rfl, (HC1.out y).mono ?_⟩; rintro e y2 ⟨rfl, h2⟩; refine ⟨_, rfl, h2, ?_⟩; with_reducible rfl
            refine WX_take (i := 7) (v := ?_) rfl (by kernel_rfl) (by kernel_rfl) (by kernel_rfl) (stable_ext _) (by rfl) ?_ ?_
            rotate_left
            · intro y hy; unfold jAt; go_simp; refine ⟨Ext.refl _, ?_⟩; with_reducible rfl
            refine WX_take (i := 8) (v := ?_) rfl (by kernel_rfl) (by kernel_rfl) (by kernel_rfl) (stable_ext _) (by rfl) ?_ ?_
            rotate_left
            · intro y hy; unfold jAt; go_simp; refine ⟨Ext.refl _, ?_⟩; with_reducible rfl
            refine WX_take (i := 9) (v := ?_) rfl (by kernel_rfl) (by kernel_rfl) (by kernel_rfl) (stable_ext _) (by rfl) ?_ ?_
            rotate_left
            · intro y hy; unfold jAt; go_simp; refine ⟨Ext.refl _, ?_⟩; with_reducible rfl
            refine WX_take (i := 10) (v := ?_) rfl (by kernel_rfl) (by kernel_rfl) (by kernel_rfl) (stable_ext _) (by rfl) ?_ ?_
            rotate_left
            · intro y hy; unfold jAt; go_simp; refine ⟨Ext.refl _, ?_⟩; with_reducible rfl
            refine WX_take (i := 11) (v := ?_) rfl (by kernel_rfl) (by kernel_rfl) (by kernel_rfl) (stable_ext _) (by rfl) ?_ ?_
            rotate_left
            · intro y hy; unfold jAt; go_simp; refine ⟨Ext.refl _, ?_⟩; with_reducible rfl
            refine WX_take (i := 12) (v := ?_) rfl (by kernel_rfl) (by kernel_rfl) (by kernel_rfl) (stable_ext _) (by rfl) ?_ ?_
            rotate_left
            · intro y hy; have q := cell_later hy d2; unfold jAt; go_simp; refine ⟨Ext.refl _, ?_⟩; with_reducible rfl
            refine WX_take (i := 13) (v := ?_) rfl (by kernel_rfl) (by kernel_rfl) (by kernel_rfl) (stable_ext _) (by rfl) ?_ ?_
            rotate_left
            · intro y hy; unfold jAt; go_simp; refine ⟨rfl, (HC2.out y).mono ?_⟩; rintro e y2 ⟨rfl, h2⟩; refine ⟨_, rfl, h2, ?_⟩; with_reducible rfl
            refine WX_take (i := 14) (v := ?_) rfl (by kernel_rfl) (by kernel_rfl) (by kernel_rfl) (stable_ext _) (by rfl) ?_ ?_
            rotate_left
            · intro y hy; unfold jAt; go_simp; refine ⟨Ext.refl _, ?_⟩; with_reducible rfl
            refine WX_take (i := 15) (v := ?_) rfl (by kernel_rfl) (by kernel_rfl) (by kernel_rfl) (stable_ext _) (by rfl) ?_ ?_
            rotate_left
            · intro y hy; unfold jAt; go_simp; refine ⟨Ext.refl _, ?_⟩; with_reducible rfl
            refine WX_take (i := 16) (v := ?_) rfl (by kernel_rfl) (by kernel_rfl) (by kernel_rfl) (stable_ext _) (by rfl) ?_ ?_
            rotate_left
            · intro y hy; unfold jAt; go_simp; refine ⟨Ext.refl _, ?_⟩; with_reducible rfl
            refine WX_take (i := 17) (v := ?_) rfl (by kernel_rfl) (by kernel_rfl) (by kernel_rfl) (stable_ext _) (by rfl) ?_ ?_
            rotate_left
            · intro y hy; unfold jAt; go_simp; refine ⟨Ext.refl _, ?_⟩; with_reducible rfl
            refine WX_take (i := 18) (v := ?_) rfl (by kernel_rfl) (by kernel_rfl) (by kernel_rfl) (stable_ext _) (by rfl) ?_ ?_
            rotate_left
            · intro y hy; unfold jAt; go_simp; refine ⟨Ext.refl _, ?_⟩; with_reducible rfl
            refine WX_take (i := 19) (v := ?_) rfl (by kernel_rfl) (by kernel_rfl) (by kernel_rfl) (stable_ext _) (by rfl) ?_ ?_
            rotate_left
            · intro y hy; have q := cell_later hy d3; unfold jAt; go_simp; refine ⟨Ext.refl _, ?_⟩; with_reducible rfl
            refine WX_take (i := 20) (v := ?_) rfl (by kernel_rfl) (by kernel_rfl) (by kernel_rfl) (stable_ext _) (by rfl) ?_ ?_
            rotate_left
            · intro y hy; unfold jAt; go_simp; refine ⟨rfl, (HC3.out y).mono ?_⟩; rintro e y2 ⟨rfl, h2⟩; refine ⟨_, rfl, h2, ?_⟩; with_reducible rfl
            refine WX_take (i := 21) (v := ?_) rfl (by kernel_rfl) (by kernel_rfl) (by kernel_rfl) (stable_ext _) (by rfl) ?_ ?_
            rotate_left
            · intro y hy; unfold jAt; go_simp; refine ⟨Ext.refl _, ?_⟩; with_reducible rfl
            refine WX_take (i := 22) (v := ?_) rfl (by kernel_rfl) (by kernel_rfl) (by kernel_rfl) (stable_ext _) (by rfl) ?_ ?_
            rotate_left
            · intro y hy; unfold jAt; go_simp; refine ⟨Ext.refl _, ?_⟩; with_reducible rfl
            refine WX_take (i := 23) (v := ?_) rfl (by kernel_rfl) (by kernel_rfl) (by kernel_rfl) (stable_ext _) (by rfl) ?_ ?_
            rotate_left
            · intro y hy; unfold jAt; go_simp; refine ⟨Ext.refl _, ?_⟩; with_reducible rfl
            refine WX_take (i := 24) (v := ?_) rfl (by kernel_rfl) (by kernel_rfl) (by kernel_rfl) (stable_ext _) (by rfl) ?_ ?_
            rotate_left
            · intro y hy; unfold jAt; go_simp; refine ⟨Ext.refl _, ?_⟩; with_reducible rfl
            refine WX_take (i := 25) (v := ?_) rfl (by kernel_rfl) (by kernel_rfl) (by kernel_rfl) (stable_ext _) (by rfl) ?_ ?_
            rotate_left
            · intro y hy; unfold jAt; go_simp; refine ⟨Ext.refl _, ?_⟩; with_reducible rfl
            refine WX_take (i := 26) (v := ?_) rfl (by kernel_rfl) (by kernel_rfl) (by kernel_rfl) (stable_ext _) (by rfl) ?_ ?_
            rotate_left
            · intro y hy; have q := cell_later hy d4; unfold jAt; go_simp; refine ⟨Ext.refl _, ?_⟩; with_reducible rfl
            refine WX_take (i := 27) (v := ?_) rfl (by kernel_rfl) (by kernel_rfl) (by kernel_rfl) (stable_ext _) (by rfl) ?_ ?_
            rotate_left
            · intro y hy; unfold jAt; go_simp; refine ⟨Ext.refl _, ?_⟩; with_reducible rfl
            refine WX_all (rs := [28]) (by kernel_rfl) (by simp) ?_
            intro i hi
            simp only [List.mem_singleton] at hi
            subst hi
            refine JOp_new (fun g => (.slice (some ⟨g, 0, none⟩) 1 1 : Value)) (fun g y => y.cell? ⟨g, 0, none⟩ = some (.int .u8 (IntKind.u8.wrap l[k].tags))) rfl (stable_ext _) (fun g => (stable_cell _ _)) (by rfl) ?_ ?_
            · intro y hy; unfold jAt; go_simp; exact ⟨Ext.alloc _ _, rfl, by rw [World.cell?_alloc_at _ _ _ _ rfl]; rfl⟩
            intro g
            refine WX_take (i := 29) (v := ?_) rfl (by kernel_rfl) (by kernel_rfl) (by kernel_rfl) ((stable_ext _).and (stable_cell _ _)) (by rfl) ?_ ?_
            rotate_left
            · intro y hy; have q := conv_one' hy.2; unfold jAt; go_simp; refine ⟨Ext.refl _, ?_⟩; with_reducible rfl
            refine WX_take (i := 30) (v := ?_) rfl (by kernel_rfl) (by kernel_rfl) (by kernel_rfl) ((stable_ext _).and (stable_cell _ _)) (by rfl) ?_ ?_
            rotate_left
            · intro y hy; unfold jAt; go_simp; refine ⟨Ext.refl _, ?_⟩; with_reducible rfl
            refine WX_take (i := 31) (v := ?_) rfl (by kernel_rfl) (by kernel_rfl) (by kernel_rfl) ((stable_ext _).and (stable_cell _ _)) (by rfl) ?_ ?_
            rotate_left
            · intro y hy; unfold jAt; go_simp; refine ⟨Ext.refl _, ?_⟩; with_reducible rfl
            refine WX_done (by kernel_rfl) ?_ _
            intro y hy
            have HBy : Hid (Below w.heap.size w y) := HB2.out.trans (Below.mono hy.1 HB2.out.size)
            have HNy : Hid (NodeAt w y (childTo l p.data.toList k)) := HN1.out.ext hy.1
            clear hy
            have HD := HDI
            have HI := HII
            go_wp2
            go_roundw
            case rel =>
              refine ⟨k + 1, _, by omega, by go_num, by rw [HX.out.1], rfl, ?_, ?_, by rw [HX.out.2.2]; exact HNy.out, HBy.out⟩
              · rw [HX.out.2.1]; exact own_snoc HO.out HG.out
              · rw [HX.out.2.1, List.length_append]; go_num
            case measure => simp [intOf]; omega
        · have hsq : (kb.toList == p.toList) = false := by rw [ByteArray.toList_eq, ByteArray.toList_eq, beq_eq_false_iff_ne]; exact hsp
          clear hbg
          have hplt : p.size < kb.size := by
            have h1 := pre_lt ((begB_iff _ _).1 HB.out) (by rw [← HK.out]; exact hsp)
            rw [← HK.out] at h1
            have e1 : p.data.toList.length = p.size := by simp
            have e2 : kb.data.toList.length = kb.size := by simp
            omega
          have HSP : Hid (keyE l[k] ≠ p.data.toList) := by show _ ≠ _; rw [← HK.out]; exact hsp
          clear hsp
          by_cases hw : maxW (atP (l.take k) p.data.toList) < l[k].weight
          · have HMX : Hid (maxW (atP (l.take (k + 1)) p.data.toList) = l[k].weight) := by
              show _ = _
              rw [(atP_snoc_on hlt HB.out HSP.out).1, maxW_snoc, if_pos hw]
            skip
            have HB2 : Hid (Below w.heap.size w w1) := hb2
            have HVk : Hid (∀ y, Below w.heap.size w y → RdW y 5 (.slice (some ⟨b, off, none⟩) l.length cap) l.length (entVals l)) := fun y hy => HV.out.below hy
            clear hb1 hbel d0 d2 d4 HS hobs

            go_wp2
            go_loopw [14] (fun nv wr => ∃ n : Nat, nv = .int .i64 n ∧ p.size + 1 ≤ n ∧ n ≤ kb.size ∧ (∀ i, p.size + 1 ≤ i → i < n → isNodeL l (kb.data.toList.take i) = false) ∧ NodeAt w wr (childTo l p.data.toList k) ∧ Below w.heap.size w wr) (fun n _ => kb.size - (intOf n).toNat)
            case atStart => exact ⟨p.size + 1, by go_num, by omega, by omega, fun i hi hi2 => by omega, HN1.out, HB2.out⟩
            case round =>
              obtain ⟨n, rfl, hpn, hn, hjn, hnd, hbel⟩ := hrel
              have HJ : Hid (∀ i, p.size + 1 ≤ i → i < n → isNodeL l (kb.data.toList.take i) = false) := hjn
              have HN2 : Hid (NodeAt w wr (childTo l p.data.toList k)) := hnd
              have hz := hbel.size
              have hin := isNode_any (.slice (some ⟨b, off, none⟩) l.length cap) l (kb.extract 0 n) wr (HVk.out wr hbel) (fun e he => by have := (HT.out e he).2.1; omega)
              rw [ext_take] at hin
              have HB3 : Hid (Below w.heap.size w wr) := hbel
              have HIN : Hid (Calls Tryz.prog 203 #[.slice (some ⟨b, off, none⟩) l.length cap, .string (kb.extract 0 n)] wr fun e w' => e = .returned (.bool (isNodeL l (kb.data.toList.take n))) ∧ Below wr.heap.size wr w') := by show Calls _ _ _ _ _; rw [ext_take]; exact hin
              clear hjn hnd hbel hin
              have hni : (n : Int) ≤ (kb.size : Int) := by omega
              go_wp2_with fail
              refine HIN.out.mono ?_
              rintro e w4 ⟨rfl, hb4⟩
              have HB4 : Hid (Below w.heap.size w w4) := HB3.out.trans (hb4.mono hz)
              have HN4 : Hid (NodeAt w w4 (childTo l p.data.toList k)) := HN2.out.ext hb4
              clear hb4 HIN HB3 HN2 hz
              cases hnn : isNodeL l (kb.data.toList.take n) with
              | false =>
                have hlt2 : n < kb.size := by
                  rcases Nat.lt_or_ge n kb.size with h | h
                  · exact h
                  · exfalso
                    rw [List.take_of_length_le (by simp; omega), HK.out, node_end hlt rfl] at hnn
                    cases hnn
                have HNN : Hid (isNodeL l (kb.data.toList.take n) = false) := hnn
                clear hnn
                go_wp2
                go_roundw
                case rel => exact ⟨n + 1, by go_num, by omega, by omega, fun i hi hi2 => by
                  rcases Nat.lt_or_ge i n with h | h
                  · exact HJ.out i hi h
                  · have : i = n := by omega
                    subst this; exact HNN.out, HN4.out, HB4.out⟩
                case measure => simp [intOf]; omega
              | true =>
                have HCH : Hid (childTo l p.data.toList (k + 1) = (childTo l p.data.toList k).set ((keyE l[k]).getD p.data.toList.length 0).toNat (kb.data.toList.take n)) := by
                  show _ = _
                  rw [(atP_snoc_on hlt HB.out HSP.out).2.2, ← HK.out]
                  congr 2
                  unfold nextN
                  have epl : p.data.toList.length = p.size := by simp
                  rw [epl, takeWhile_len _ _ (n - (p.size + 1)) (by simp; omega) (fun i hi => ?_) (fun hi => ?_)]
                  · omega
                  · simp only [List.getElem_range, Bool.not_eq_true']
                    exact HJ.out _ (by omega) (by omega)
                  · simp only [List.getElem_range, Bool.not_eq_false']
                    rw [show p.size + 1 + (n - (p.size + 1)) = n by omega]
                    exact hnn
                have HOW : Hid (ownP (l.take (k + 1)) p.data.toList = ownP (l.take k) p.data.toList) := (atP_snoc_on hlt HB.out HSP.out).2.1
                clear hnn
                have hpi : (p.size : Int) < (kb.size : Int) := by omega
                have hb256 : kb[p.size].toNat < 256 := UInt8.toNat_lt _
                have hb256i : (kb[p.size].toNat : Int) < 256 := by omega
                obtain ⟨ov, hcw⟩ : ∃ ov : ByteArray, w4.cell? ⟨w.heap.size, kb[p.size].toNat, none⟩ = some (.string ov) := ⟨_, ch_cell HN4.out _ (by rw [child_len]; exact hb256)⟩
                have hfw : w4.frozen? ⟨w.heap.size, kb[p.size].toNat, none⟩ = false := frozen_of_heap HN4.out _
                go_wp2
                refine wp_region_held (S := fun w' => True) (by kernel_rfl) ?_
                refine wpAnyH_take (i := 0) (v := ?_) rfl (by kernel_rfl) (by kernel_rfl) (by kernel_rfl) (fun _ _ _ h => h) (Or.inl ⟨by rfl, ?_⟩) trivial ?_
                rotate_left
                · rintro w' _; go_simp; first | done | with_reducible rfl
                refine wpAnyH_take (i := 1) (v := ?_) rfl (by kernel_rfl) (by kernel_rfl) (by kernel_rfl) (fun _ _ _ h => h) (Or.inl ⟨by rfl, ?_⟩) trivial ?_
                rotate_left
                · rintro w' _; go_simp; first | done | with_reducible rfl
                refine wpAnyH_take (i := 2) (v := ?_) rfl (by kernel_rfl) (by kernel_rfl) (by kernel_rfl) (fun _ _ _ h => h) (Or.inl ⟨by rfl, ?_⟩) trivial ?_
                rotate_left
                · rintro w' _; go_simp; first | done | with_reducible rfl
                refine wpAnyH_take (i := 3) (v := ?_) rfl (by kernel_rfl) (by kernel_rfl) (by kernel_rfl) (fun _ _ _ h => h) (Or.inl ⟨by rfl, ?_⟩) trivial ?_
                rotate_left
                · rintro w' _; go_simp; first | done | with_reducible rfl
                refine wpAnyH_take (i := 4) (v := ?_) rfl (by kernel_rfl) (by kernel_rfl) (by kernel_rfl) (fun _ _ _ h => h) (Or.inl ⟨by rfl, ?_⟩) trivial ?_
                rotate_left
                · rintro w' _; go_simp; first | done | with_reducible rfl
                refine wpAnyH_take (i := 5) (v := ?_) rfl (by kernel_rfl) (by kernel_rfl) (by kernel_rfl) (fun _ _ _ h => h) (Or.inl ⟨by rfl, ?_⟩) trivial ?_
                rotate_left
                · rintro w' _; go_simp; first | done | with_reducible rfl
                refine wpAnyH_take (i := 6) (v := ?_) rfl (by kernel_rfl) (by kernel_rfl) (by kernel_rfl) (fun _ _ _ h => h) (Or.inl ⟨by rfl, ?_⟩) trivial ?_
                rotate_left
                · rintro w' _; go_simp; first | done | with_reducible rfl
                refine wpAnyH_take (i := 7) (v := ?_) rfl (by kernel_rfl) (by kernel_rfl) (by kernel_rfl) (fun _ _ _ h => h) (Or.inl ⟨by rfl, ?_⟩) trivial ?_
                rotate_left
                · rintro w' _; go_simp; first | done | with_reducible rfl
                refine wpAnyH_all (rs := [8]) (by kernel_rfl) (by simp) ?_
                intro i hi
                simp only [List.mem_singleton] at hi
                subst hi
                refine wpOp_step (by rfl) fun K' hK' => ?_
                rw [if_pos (by rfl)]
                unfold Oper.wp
                go_simp
                refine hK' _ _ ⟨trivial, wpAnyH_done (by kernel_rfl) ?_ _⟩
                clear hK'
                have HB5 : Hid (Below w.heap.size w (w4.setCell ⟨w.heap.size, kb[p.size].toNat, none⟩ (.string (kb.extract 0 n)))) := by exact Below.setCell HB4.out (Nat.le_refl _) _
                have HN5 : Hid (NodeAt w (w4.setCell ⟨w.heap.size, kb[p.size].toNat, none⟩ (.string (kb.extract 0 n))) (childTo l p.data.toList (k + 1))) := by
                  show NodeAt _ _ _
                  have h5 := HN4.out.set kb[p.size].toNat (kb.extract 0 n)
                  rw [HCH.out, ← HK.out]
                  have e1 : (kb.extract 0 n).data.toList = kb.data.toList.take n := by rw [ext_take]
                  have e2 : kb.data.toList.getD p.data.toList.length 0 = kb[p.size] := by
                    rw [List.getD_eq_getElem?_getD, show p.data.toList.length = p.size by simp]
                    simp [hplt]
                    rfl
                  rw [e1] at h5
                  rw [e2]
                  exact h5
                clear HN4 HB4 hcw hfw
                go_wp2
                go_roundw
                case rel => exact ⟨k + 1, ob, by omega, by go_num, by rw [HMX.out], rfl, by rw [HOW.out]; exact HO.out, by rw [HOW.out], HN5.out, HB5.out.drew⟩
                case measure => simp [intOf]; omega
          · have HMX : Hid (maxW (atP (l.take (k + 1)) p.data.toList) = maxW (atP (l.take k) p.data.toList)) := by
              show _ = _
              rw [(atP_snoc_on hlt HB.out HSP.out).1, maxW_snoc, if_neg hw]
            skip
            have HB2 : Hid (Below w.heap.size w w1) := hb2
            have HVk : Hid (∀ y, Below w.heap.size w y → RdW y 5 (.slice (some ⟨b, off, none⟩) l.length cap) l.length (entVals l)) := fun y hy => HV.out.below hy
            clear hb1 hbel d0 d2 d4 HS hobs

            go_wp2
            go_loopw [14] (fun nv wr => ∃ n : Nat, nv = .int .i64 n ∧ p.size + 1 ≤ n ∧ n ≤ kb.size ∧ (∀ i, p.size + 1 ≤ i → i < n → isNodeL l (kb.data.toList.take i) = false) ∧ NodeAt w wr (childTo l p.data.toList k) ∧ Below w.heap.size w wr) (fun n _ => kb.size - (intOf n).toNat)
            case atStart => exact ⟨p.size + 1, by go_num, by omega, by omega, fun i hi hi2 => by omega, HN1.out, HB2.out⟩
            case round =>
              obtain ⟨n, rfl, hpn, hn, hjn, hnd, hbel⟩ := hrel
              have HJ : Hid (∀ i, p.size + 1 ≤ i → i < n → isNodeL l (kb.data.toList.take i) = false) := hjn
              have HN2 : Hid (NodeAt w wr (childTo l p.data.toList k)) := hnd
              have hz := hbel.size
              have hin := isNode_any (.slice (some ⟨b, off, none⟩) l.length cap) l (kb.extract 0 n) wr (HVk.out wr hbel) (fun e he => by have := (HT.out e he).2.1; omega)
              rw [ext_take] at hin
              have HB3 : Hid (Below w.heap.size w wr) := hbel
              have HIN : Hid (Calls Tryz.prog 203 #[.slice (some ⟨b, off, none⟩) l.length cap, .string (kb.extract 0 n)] wr fun e w' => e = .returned (.bool (isNodeL l (kb.data.toList.take n))) ∧ Below wr.heap.size wr w') := by show Calls _ _ _ _ _; rw [ext_take]; exact hin
              clear hjn hnd hbel hin
              have hni : (n : Int) ≤ (kb.size : Int) := by omega
              go_wp2_with fail
              refine HIN.out.mono ?_
              rintro e w4 ⟨rfl, hb4⟩
              have HB4 : Hid (Below w.heap.size w w4) := HB3.out.trans (hb4.mono hz)
              have HN4 : Hid (NodeAt w w4 (childTo l p.data.toList k)) := HN2.out.ext hb4
              clear hb4 HIN HB3 HN2 hz
              cases hnn : isNodeL l (kb.data.toList.take n) with
              | false =>
                have hlt2 : n < kb.size := by
                  rcases Nat.lt_or_ge n kb.size with h | h
                  · exact h
                  · exfalso
                    rw [List.take_of_length_le (by simp; omega), HK.out, node_end hlt rfl] at hnn
                    cases hnn
                have HNN : Hid (isNodeL l (kb.data.toList.take n) = false) := hnn
                clear hnn
                go_wp2
                go_roundw
                case rel => exact ⟨n + 1, by go_num, by omega, by omega, fun i hi hi2 => by
                  rcases Nat.lt_or_ge i n with h | h
                  · exact HJ.out i hi h
                  · have : i = n := by omega
                    subst this; exact HNN.out, HN4.out, HB4.out⟩
                case measure => simp [intOf]; omega
              | true =>
                have HCH : Hid (childTo l p.data.toList (k + 1) = (childTo l p.data.toList k).set ((keyE l[k]).getD p.data.toList.length 0).toNat (kb.data.toList.take n)) := by
                  show _ = _
                  rw [(atP_snoc_on hlt HB.out HSP.out).2.2, ← HK.out]
                  congr 2
                  unfold nextN
                  have epl : p.data.toList.length = p.size := by simp
                  rw [epl, takeWhile_len _ _ (n - (p.size + 1)) (by simp; omega) (fun i hi => ?_) (fun hi => ?_)]
                  · omega
                  · simp only [List.getElem_range, Bool.not_eq_true']
                    exact HJ.out _ (by omega) (by omega)
                  · simp only [List.getElem_range, Bool.not_eq_false']
                    rw [show p.size + 1 + (n - (p.size + 1)) = n by omega]
                    exact hnn
                have HOW : Hid (ownP (l.take (k + 1)) p.data.toList = ownP (l.take k) p.data.toList) := (atP_snoc_on hlt HB.out HSP.out).2.1
                clear hnn
                have hpi : (p.size : Int) < (kb.size : Int) := by omega
                have hb256 : kb[p.size].toNat < 256 := UInt8.toNat_lt _
                have hb256i : (kb[p.size].toNat : Int) < 256 := by omega
                obtain ⟨ov, hcw⟩ : ∃ ov : ByteArray, w4.cell? ⟨w.heap.size, kb[p.size].toNat, none⟩ = some (.string ov) := ⟨_, ch_cell HN4.out _ (by rw [child_len]; exact hb256)⟩
                have hfw : w4.frozen? ⟨w.heap.size, kb[p.size].toNat, none⟩ = false := frozen_of_heap HN4.out _
                go_wp2
                refine wp_region_held (S := fun w' => True) (by kernel_rfl) ?_
                refine wpAnyH_take (i := 0) (v := ?_) rfl (by kernel_rfl) (by kernel_rfl) (by kernel_rfl) (fun _ _ _ h => h) (Or.inl ⟨by rfl, ?_⟩) trivial ?_
                rotate_left
                · rintro w' _; go_simp; first | done | with_reducible rfl
                refine wpAnyH_take (i := 1) (v := ?_) rfl (by kernel_rfl) (by kernel_rfl) (by kernel_rfl) (fun _ _ _ h => h) (Or.inl ⟨by rfl, ?_⟩) trivial ?_
                rotate_left
                · rintro w' _; go_simp; first | done | with_reducible rfl
                refine wpAnyH_take (i := 2) (v := ?_) rfl (by kernel_rfl) (by kernel_rfl) (by kernel_rfl) (fun _ _ _ h => h) (Or.inl ⟨by rfl, ?_⟩) trivial ?_
                rotate_left
                · rintro w' _; go_simp; first | done | with_reducible rfl
                refine wpAnyH_take (i := 3) (v := ?_) rfl (by kernel_rfl) (by kernel_rfl) (by kernel_rfl) (fun _ _ _ h => h) (Or.inl ⟨by rfl, ?_⟩) trivial ?_
                rotate_left
                · rintro w' _; go_simp; first | done | with_reducible rfl
                refine wpAnyH_take (i := 4) (v := ?_) rfl (by kernel_rfl) (by kernel_rfl) (by kernel_rfl) (fun _ _ _ h => h) (Or.inl ⟨by rfl, ?_⟩) trivial ?_
                rotate_left
                · rintro w' _; go_simp; first | done | with_reducible rfl
                refine wpAnyH_take (i := 5) (v := ?_) rfl (by kernel_rfl) (by kernel_rfl) (by kernel_rfl) (fun _ _ _ h => h) (Or.inl ⟨by rfl, ?_⟩) trivial ?_
                rotate_left
                · rintro w' _; go_simp; first | done | with_reducible rfl
                refine wpAnyH_take (i := 6) (v := ?_) rfl (by kernel_rfl) (by kernel_rfl) (by kernel_rfl) (fun _ _ _ h => h) (Or.inl ⟨by rfl, ?_⟩) trivial ?_
                rotate_left
                · rintro w' _; go_simp; first | done | with_reducible rfl
                refine wpAnyH_take (i := 7) (v := ?_) rfl (by kernel_rfl) (by kernel_rfl) (by kernel_rfl) (fun _ _ _ h => h) (Or.inl ⟨by rfl, ?_⟩) trivial ?_
                rotate_left
                · rintro w' _; go_simp; first | done | with_reducible rfl
                refine wpAnyH_all (rs := [8]) (by kernel_rfl) (by simp) ?_
                intro i hi
                simp only [List.mem_singleton] at hi
                subst hi
                refine wpOp_step (by rfl) fun K' hK' => ?_
                rw [if_pos (by rfl)]
                unfold Oper.wp
                go_simp
                refine hK' _ _ ⟨trivial, wpAnyH_done (by kernel_rfl) ?_ _⟩
                clear hK'
                have HB5 : Hid (Below w.heap.size w (w4.setCell ⟨w.heap.size, kb[p.size].toNat, none⟩ (.string (kb.extract 0 n)))) := by exact Below.setCell HB4.out (Nat.le_refl _) _
                have HN5 : Hid (NodeAt w (w4.setCell ⟨w.heap.size, kb[p.size].toNat, none⟩ (.string (kb.extract 0 n))) (childTo l p.data.toList (k + 1))) := by
                  show NodeAt _ _ _
                  have h5 := HN4.out.set kb[p.size].toNat (kb.extract 0 n)
                  rw [HCH.out, ← HK.out]
                  have e1 : (kb.extract 0 n).data.toList = kb.data.toList.take n := by rw [ext_take]
                  have e2 : kb.data.toList.getD p.data.toList.length 0 = kb[p.size] := by
                    rw [List.getD_eq_getElem?_getD, show p.data.toList.length = p.size by simp]
                    simp [hplt]
                    rfl
                  rw [e1] at h5
                  rw [e2]
                  exact h5
                clear HN4 HB4 hcw hfw
                go_wp2
                go_roundw
                case rel => exact ⟨k + 1, ob, by omega, by go_num, by rw [HMX.out], rfl, by rw [HOW.out]; exact HO.out, by rw [HOW.out], HN5.out, HB5.out.drew⟩
                case measure => simp [intOf]; omega
    · have hke : k = l.length := by omega
      subst hke
      rw [List.take_length] at HO
      clear hlt hk hobs hol
      rw [List.take_length]
      have hpar := node_parts HT.out hl20 hf20 p.data.toList ah.data.toList (by simp; omega)
      have hsum := fun (c : Nat) => kidsTo_len l p.data.toList c (fun q => nodeL f l q p.data.toList)
      have HSM : Hid (∀ c : Nat, ((kidsTo l p.data.toList c).flatMap fun q => nodeL f l q p.data.toList).length ≤ ((kidsL l p.data.toList).flatMap fun q => nodeL f l q p.data.toList).length) := hsum
      have HPR : Hid ((pieceL (p.data.toList.drop ah.data.toList.length)).length + 3 + 1 + ((ownP l p.data.toList).flatMap entB).length + 1 + ((kidsL l p.data.toList).flatMap fun q => nodeL f l q p.data.toList).length ≤ 7000000000000000000) := hpar
      have HB0 : Hid (Below w.heap.size w wr) := hbel
      clear hpar hsum hbel HS
      go_wp2
      go_loopw [16, 17, 18] (fun bv mv cv wx => ∃ (c : Nat) (be : ByteArray), c ≤ 256 ∧ cv = .int .i64 c ∧ bv = .string be ∧ be.data.toList = ((kidsTo l p.data.toList c).flatMap fun q => nodeL f l q p.data.toList) ∧ mv = .int .i64 (kidsTo l p.data.toList c).length ∧ NodeAt w wx (childTo l p.data.toList l.length) ∧ Below w.heap.size w wx) (fun _ _ c _ => 256 - (intOf c).toNat)
      case atStart => exact ⟨0, ⟨#[]⟩, Nat.zero_le _, rfl, rfl, rfl, rfl, HN.out, HB0.out⟩
      case round =>
        obtain ⟨c, be, hc256, rfl, rfl, hbe, rfl, hnd, hbel⟩ := hrel
        have HBE : Hid (be.data.toList = ((kidsTo l p.data.toList c).flatMap fun q => nodeL f l q p.data.toList)) := hbe
        have HNW : Hid (NodeAt w wr (childTo l p.data.toList l.length)) := hnd
        have HBW : Hid (Below w.heap.size w wr) := hbel
        have hbes : be.size ≤ 7000000000000000000 := by
          have h1 := HSM.out c
          have h2 := HPR.out
          have h3 := congrArg List.length hbe
          have h4 : be.data.toList.length = be.size := by simp
          omega
        have hkl : (kidsTo l p.data.toList c).length ≤ 256 := by
          unfold kidsTo
          have := List.length_filter_le (fun q : Wd => !q.isEmpty) ((childTo l p.data.toList l.length).take c)
          simp at this
          have h2 := child_len l p.data.toList l.length
          omega
        clear hbe hnd hbel
        by_cases hlt : c < 256
        · have hci : (c : Int) < 256 := by omega
          have hlc : c < (childTo l p.data.toList l.length).length := by rw [child_len]; exact hlt
          obtain ⟨q, hq⟩ : ∃ q, q = (childTo l p.data.toList l.length)[c] := ⟨_, rfl⟩
          have hcel : wr.cell? ⟨w.heap.size, c, none⟩ = some (.string ⟨q.toArray⟩) := by rw [hq]; exact ch_cell HNW.out c hlc
          have HKS : Hid (kidsTo l p.data.toList (c + 1) = kidsTo l p.data.toList c ++ (if q.isEmpty = true then [] else [q])) := by show _ = _; rw [hq]; exact kidsTo_snoc l p.data.toList c hlc
          have HKO : Hid (q ≠ [] → ∃ e ∈ l, q <+: keyE e ∧ p.data.toList.length < q.length) := fun hne => kid_ok l p.data.toList l.length (Nat.le_refl _) q (by rw [hq]; exact List.getElem_mem hlc) hne
          clear hq hlc
          by_cases hqe : q = []
          · have HK2 : Hid (kidsTo l p.data.toList (c + 1) = kidsTo l p.data.toList c) := by show _ = _; rw [HKS.out, hqe]; simp
            subst hqe
            go_wp2
            go_roundw
            case rel => exact ⟨c + 1, be, by omega, by go_num, rfl, by rw [HK2.out]; exact HBE.out, by rw [HK2.out], HNW.out, HBW.out⟩
            case measure => simp [intOf]; omega
          · obtain ⟨e0, he0, hpre0, hlen0⟩ := HKO.out hqe
            have hd0 := HD.out e0 he0
            have hk0 := hpre0.length_le
            have hq20 : q.length ≤ 1048576 := by
              have := (HT.out e0 he0).2.1
              unfold keyE at hk0
              rw [foldL_length] at hk0; omega
            have hpl : p.data.toList.length = p.size := by simp
            have hqs : (⟨q.toArray⟩ : ByteArray).size = q.length := rfl
            have hf0 : 0 < f := by omega
            have hcall := HI.out (f - 1) (by omega) ⟨q.toArray⟩ p (.slice a l.length cap) wr (by omega) (HV.out.below HBW.out) (fun e he => by have := HD.out e he; omega) (by omega) (by omega)
            rw [show f - 1 + 1 = f by omega] at hcall
            obtain ⟨P, hPe⟩ : ∃ P : ByteArray, P = ⟨(nodeL f l q p.data.toList).toArray⟩ := ⟨_, rfl⟩
            have hcall2 : Calls Tryz.prog 150 #[.slice a l.length cap, .string ⟨q.toArray⟩, .string p] wr fun e w' => e = .returned (.string P) ∧ Below wr.heap.size wr w' := by rw [hPe]; exact hcall
            have HCL : Hid (Calls Tryz.prog 150 #[.slice a l.length cap, .string ⟨q.toArray⟩, .string p] wr fun e w' => e = .returned (.string P) ∧ Below wr.heap.size wr w') := hcall2
            have HK2 : Hid (kidsTo l p.data.toList (c + 1) = kidsTo l p.data.toList c ++ [q]) := by
              show _ = _
              rw [HKS.out, if_neg (by simpa using hqe)]
            have HB6 : Hid ((be ++ P).data.toList = ((kidsTo l p.data.toList (c + 1)).flatMap fun q => nodeL f l q p.data.toList)) := by
              show _ = _
              rw [HK2.out, List.flatMap_append, ByteArray.data_append, Array.toList_append, HBE.out, hPe]
              simp
            have hbP : ¬ (9223372036854775807 < be.size + P.size) := by
              have h1 := HSM.out (c + 1)
              have h2 := HPR.out
              have h3 := congrArg List.length HB6.out
              have h4 : (be ++ P).data.toList.length = be.size + P.size := by simp
              omega
            have hqne : (⟨q.toArray⟩ : ByteArray).toList.isEmpty = false := by
              rw [ByteArray.toList_eq]
              cases q with
              | nil => exact absurd rfl hqe
              | cons x q => rfl
            clear hcall hcall2 hPe hqs hpl hd0 hk0 hpre0 hlen0 hq20
            have hz := HBW.out.size
            generalize (⟨q.toArray⟩ : ByteArray) = qb at hcel HCL hqne
            clear hqe
            go_wp2_with fail
            refine HCL.out.mono ?_
            rintro e w5 ⟨rfl, hb5⟩
            have HB7 : Hid (Below w.heap.size w w5) := HBW.out.trans (hb5.mono hz)
            have HN7 : Hid (NodeAt w w5 (childTo l p.data.toList l.length)) := HNW.out.ext hb5
            clear hb5 HCL hcel
            go_wp2
            go_roundw
            case rel => exact ⟨c + 1, be ++ P, by omega, by go_num, rfl, HB6.out, by rw [HK2.out, List.length_append]; go_num, HN7.out, HB7.out⟩
            case measure => simp [intOf]; omega
        · have hce : c = 256 := by omega
          subst hce
          rw [kidsTo_all] at HBE ⊢
          have hpsz : p.data.toList.length = p.size := by simp
          have hasz : ah.data.toList.length = ah.size := by simp
          have hml := maxW_le63 (atP l p.data.toList) (fun e he => (HT.out e (atP_mem.1 he).1).2.2.1.2)
          have hmp := maxW_pos (atP l p.data.toList)
          obtain ⟨P2, g2, C2⟩ := three_let (maxW (atP l p.data.toList)) (by omega) hml
          obtain ⟨P1, g1, C1⟩ : ∃ P1 : ByteArray, P1.data.toList = pieceL (p.data.toList.drop ah.data.toList.length) ∧ ∀ w : World, Calls Tryz.prog 149 #[.string (p.extract ah.size p.size)] w fun e w' => e = .returned (.string P1) ∧ Ext w w' := by
            refine ⟨⟨(pieceL (p.data.toList.drop ah.data.toList.length)).toArray⟩, rfl, fun w => ?_⟩
            have h := piece_any (p.extract ah.size p.size) w (by simp; omega)
            have e1 : (p.extract ah.size p.size).data.toList = p.data.toList.drop ah.data.toList.length := by
              rw [hasz, ByteArray.data_extract]
              simp
              rw [List.take_of_length_le (by simp)]
            rw [e1] at h
            exact h
          have HC1 : Hid (∀ w : World, Calls Tryz.prog 149 #[.string (p.extract ah.size p.size)] w fun e w' => e = .returned (.string P1) ∧ Ext w w') := C1
          have HC2 : Hid (∀ w : World, Calls Tryz.prog 202 #[.int .i64 (maxW (atP l p.data.toList))] w fun e w' => e = .returned (.string P2) ∧ Ext w w') := C2
          have FIN : Hid (P1 ++ P2 ++ ⟨#[u8 (ownP l p.data.toList).length]⟩ ++ ob ++ ⟨#[u8 (kidsL l p.data.toList).length]⟩ ++ be = ⟨(nodeL (f + 1) l p.data.toList ah.data.toList).toArray⟩) := node_eq g1 g2.1 HO.out HBE.out
          have p2 := g2.2
          have hP1 : P1.size = (pieceL (p.data.toList.drop ah.data.toList.length)).length := by rw [← g1]; simp
          have hobz : ob.size = ((ownP l p.data.toList).flatMap entB).length := by rw [← HO.out]; simp
          have hbez : be.size = ((kidsL l p.data.toList).flatMap fun q => nodeL f l q p.data.toList).length := by rw [← HBE.out]; simp
          have hpr := HPR.out
          have f2 : (P1 ++ P2).size = P1.size + P2.size := ByteArray.size_append
          have f3 : (P1 ++ P2 ++ ⟨#[u8 (ownP l p.data.toList).length]⟩).size = P1.size + P2.size + 1 := by rw [ByteArray.size_append, ByteArray.size_append]; rfl
          have f4 : (P1 ++ P2 ++ ⟨#[u8 (ownP l p.data.toList).length]⟩ ++ ob).size = P1.size + P2.size + 1 + ob.size := by rw [ByteArray.size_append, f3]
          have f5 : (P1 ++ P2 ++ ⟨#[u8 (ownP l p.data.toList).length]⟩ ++ ob ++ ⟨#[u8 (kidsL l p.data.toList).length]⟩).size = P1.size + P2.size + 1 + ob.size + 1 := by rw [ByteArray.size_append, f4]; rfl
          have hq1 : ¬ (9223372036854775807 < P1.size + 3) := by omega
          have hq2 : ¬ (9223372036854775807 < P1.size + 3 + 1) := by omega
          have hq3 : ¬ (9223372036854775807 < P1.size + 3 + 1 + ob.size) := by omega
          have hq4 : ¬ (9223372036854775807 < P1.size + 3 + 1 + ob.size + 1) := by omega
          have hq5 : ¬ (9223372036854775807 < P1.size + 3 + 1 + ob.size + 1 + be.size) := by omega
          have hai : (ah.size : Int) ≤ (p.size : Int) := by omega
          have HBQ : Hid (Below w.heap.size w wr) := HBW.out
          clear hP1 hobz hbez hpr C1 C2 g1 g2 hml hmp hpsz hasz HBW HNW hlt
          clear HI HD
          go_wp2
          refine wp_region_X (by kernel_rfl) ?_
          refine WX_take (i := 0) (v := ?_) rfl (by kernel_rfl) (by kernel_rfl) (by kernel_rfl) (stable_ext _) (by rfl) ?_ ?_
          rotate_left
          · intro y hy; unfold jAt; go_simp; refine ⟨Ext.refl _, ?_⟩; with_reducible rfl
          refine WX_take (i := 1) (v := ?_) rfl (by kernel_rfl) (by kernel_rfl) (by kernel_rfl) (stable_ext _) (by rfl) ?_ ?_
          rotate_left
          · intro y hy; unfold jAt; go_simp; refine ⟨Ext.refl _, ?_⟩; with_reducible rfl
          refine WX_take (i := 2) (v := ?_) rfl (by kernel_rfl) (by kernel_rfl) (by kernel_rfl) (stable_ext _) (by rfl) ?_ ?_
          rotate_left
          · intro y hy; unfold jAt; go_simp; refine ⟨Ext.refl _, ?_⟩; with_reducible rfl
          refine WX_take (i := 3) (v := ?_) rfl (by kernel_rfl) (by kernel_rfl) (by kernel_rfl) (stable_ext _) (by rfl) ?_ ?_
          rotate_left
          · intro y hy; unfold jAt; go_simp; refine ⟨Ext.refl _, ?_⟩; with_reducible rfl
          refine WX_take (i := 4) (v := ?_) rfl (by kernel_rfl) (by kernel_rfl) (by kernel_rfl) (stable_ext _) (by rfl) ?_ ?_
          rotate_left
          · intro y hy; unfold jAt; go_simp; refine ⟨rfl, (HC1.out y).mono ?_⟩; rintro e y2 ⟨rfl, h2⟩; refine ⟨_, rfl, h2, ?_⟩; with_reducible rfl
          refine WX_take (i := 5) (v := ?_) rfl (by kernel_rfl) (by kernel_rfl) (by kernel_rfl) (stable_ext _) (by rfl) ?_ ?_
          rotate_left
          · intro y hy; unfold jAt; go_simp; refine ⟨Ext.refl _, ?_⟩; with_reducible rfl
          refine WX_take (i := 6) (v := ?_) rfl (by kernel_rfl) (by kernel_rfl) (by kernel_rfl) (stable_ext _) (by rfl) ?_ ?_
          rotate_left
          · intro y hy; unfold jAt; go_simp; refine ⟨rfl, (HC2.out y).mono ?_⟩; rintro e y2 ⟨rfl, h2⟩; refine ⟨_, rfl, h2, ?_⟩; with_reducible rfl
          refine WX_take (i := 7) (v := ?_) rfl (by kernel_rfl) (by kernel_rfl) (by kernel_rfl) (stable_ext _) (by rfl) ?_ ?_
          rotate_left
          · intro y hy; unfold jAt; go_simp; refine ⟨Ext.refl _, ?_⟩; with_reducible rfl
          refine WX_take (i := 8) (v := ?_) rfl (by kernel_rfl) (by kernel_rfl) (by kernel_rfl) (stable_ext _) (by rfl) ?_ ?_
          rotate_left
          · intro y hy; unfold jAt; go_simp; refine ⟨Ext.refl _, ?_⟩; with_reducible rfl
          refine WX_take (i := 9) (v := ?_) rfl (by kernel_rfl) (by kernel_rfl) (by kernel_rfl) (stable_ext _) (by rfl) ?_ ?_
          rotate_left
          · intro y hy; unfold jAt; go_simp; refine ⟨Ext.refl _, ?_⟩; with_reducible rfl
          refine WX_take (i := 13) (v := ?_) rfl (by kernel_rfl) (by kernel_rfl) (by kernel_rfl) (stable_ext _) (by rfl) ?_ ?_
          rotate_left
          · intro y hy; unfold jAt; go_simp; refine ⟨Ext.refl _, ?_⟩; with_reducible rfl
          refine WX_take (i := 15) (v := ?_) rfl (by kernel_rfl) (by kernel_rfl) (by kernel_rfl) (stable_ext _) (by rfl) ?_ ?_
          rotate_left
          · intro y hy; unfold jAt; go_simp; refine ⟨Ext.refl _, ?_⟩; with_reducible rfl
          refine WX_take (i := 16) (v := ?_) rfl (by kernel_rfl) (by kernel_rfl) (by kernel_rfl) (stable_ext _) (by rfl) ?_ ?_
          rotate_left
          · intro y hy; unfold jAt; go_simp; refine ⟨Ext.refl _, ?_⟩; with_reducible rfl
          refine WX_take (i := 20) (v := ?_) rfl (by kernel_rfl) (by kernel_rfl) (by kernel_rfl) (stable_ext _) (by rfl) ?_ ?_
          rotate_left
          · intro y hy; unfold jAt; go_simp; refine ⟨Ext.refl _, ?_⟩; with_reducible rfl
          refine WX_all (rs := [10, 17]) (by kernel_rfl) (by simp) ?_
          intro i hi
          simp only [List.mem_cons, List.mem_nil_iff, or_false] at hi
          rcases hi with rfl | rfl
          · refine JOp_new (fun g => (.slice (some ⟨g, 0, none⟩) 1 1 : Value)) (fun g y => y.cell? ⟨g, 0, none⟩ = some (.int .u8 (IntKind.u8.wrap ((ownP l p.data.toList).length : Int)))) rfl (stable_ext _) (fun g => (stable_cell _ _)) (by rfl) ?_ ?_
            · intro y hy; unfold jAt; go_simp; exact ⟨Ext.alloc _ _, rfl, by rw [World.cell?_alloc_at _ _ _ _ rfl]; rfl⟩
            intro g
            refine WX_take (i := 11) (v := ?_) rfl (by kernel_rfl) (by kernel_rfl) (by kernel_rfl) ((stable_ext _).and (stable_cell _ _)) (by rfl) ?_ ?_
            rotate_left
            · intro y hy; have q := conv_one' hy.2; unfold jAt; go_simp; refine ⟨Ext.refl _, ?_⟩; with_reducible rfl
            refine WX_take (i := 12) (v := ?_) rfl (by kernel_rfl) (by kernel_rfl) (by kernel_rfl) ((stable_ext _).and (stable_cell _ _)) (by rfl) ?_ ?_
            rotate_left
            · intro y hy; unfold jAt; go_simp; refine ⟨Ext.refl _, ?_⟩; with_reducible rfl
            refine WX_take (i := 14) (v := ?_) rfl (by kernel_rfl) (by kernel_rfl) (by kernel_rfl) ((stable_ext _).and (stable_cell _ _)) (by rfl) ?_ ?_
            rotate_left
            · intro y hy; unfold jAt; go_simp; refine ⟨Ext.refl _, ?_⟩; with_reducible rfl
            refine WX_all (rs := [17]) (by kernel_rfl) (by simp) ?_
            intro i hi
            simp only [List.mem_singleton] at hi
            subst hi
            refine JOp_new (fun g => (.slice (some ⟨g, 0, none⟩) 1 1 : Value)) (fun g y => y.cell? ⟨g, 0, none⟩ = some (.int .u8 (IntKind.u8.wrap ((kidsL l p.data.toList).length : Int)))) rfl ((stable_ext _).and (stable_cell _ _)) (fun g => (stable_cell _ _)) (by rfl) ?_ ?_
            · intro y hy; unfold jAt; go_simp; exact ⟨Ext.alloc _ _, rfl, by rw [World.cell?_alloc_at _ _ _ _ rfl]; rfl⟩
            intro g
            refine WX_take (i := 18) (v := ?_) rfl (by kernel_rfl) (by kernel_rfl) (by kernel_rfl) (((stable_ext _).and (stable_cell _ _)).and (stable_cell _ _)) (by rfl) ?_ ?_
            rotate_left
            · intro y hy; have q := conv_one' hy.2; unfold jAt; go_simp; refine ⟨Ext.refl _, ?_⟩; with_reducible rfl
            refine WX_take (i := 19) (v := ?_) rfl (by kernel_rfl) (by kernel_rfl) (by kernel_rfl) (((stable_ext _).and (stable_cell _ _)).and (stable_cell _ _)) (by rfl) ?_ ?_
            rotate_left
            · intro y hy; unfold jAt; go_simp; refine ⟨Ext.refl _, ?_⟩; with_reducible rfl
            refine WX_take (i := 21) (v := ?_) rfl (by kernel_rfl) (by kernel_rfl) (by kernel_rfl) (((stable_ext _).and (stable_cell _ _)).and (stable_cell _ _)) (by rfl) ?_ ?_
            rotate_left
            · intro y hy; unfold jAt; go_simp; refine ⟨Ext.refl _, ?_⟩; with_reducible rfl
            refine WX_take (i := 22) (v := ?_) rfl (by kernel_rfl) (by kernel_rfl) (by kernel_rfl) (((stable_ext _).and (stable_cell _ _)).and (stable_cell _ _)) (by rfl) ?_ ?_
            rotate_left
            · intro y hy; unfold jAt; go_simp; refine ⟨Ext.refl _, ?_⟩; with_reducible rfl
            refine WX_done (by kernel_rfl) ?_ _
            intro y hy
            have HBy : Hid (Ext wr y) := hy.1.1
            clear hy
            go_simp
            go_wp2
            go_ret
            refine ⟨ret_str ?_, HBQ.out.trans (Below.mono HBy.out HBQ.out.size)⟩
            exact FIN.out
          · refine JOp_new (fun g => (.slice (some ⟨g, 0, none⟩) 1 1 : Value)) (fun g y => y.cell? ⟨g, 0, none⟩ = some (.int .u8 (IntKind.u8.wrap ((kidsL l p.data.toList).length : Int)))) rfl (stable_ext _) (fun g => (stable_cell _ _)) (by rfl) ?_ ?_
            · intro y hy; unfold jAt; go_simp; exact ⟨Ext.alloc _ _, rfl, by rw [World.cell?_alloc_at _ _ _ _ rfl]; rfl⟩
            intro g
            refine WX_take (i := 18) (v := ?_) rfl (by kernel_rfl) (by kernel_rfl) (by kernel_rfl) ((stable_ext _).and (stable_cell _ _)) (by rfl) ?_ ?_
            rotate_left
            · intro y hy; have q := conv_one' hy.2; unfold jAt; go_simp; refine ⟨Ext.refl _, ?_⟩; with_reducible rfl
            refine WX_all (rs := [10]) (by kernel_rfl) (by simp) ?_
            intro i hi
            simp only [List.mem_singleton] at hi
            subst hi
            refine JOp_new (fun g => (.slice (some ⟨g, 0, none⟩) 1 1 : Value)) (fun g y => y.cell? ⟨g, 0, none⟩ = some (.int .u8 (IntKind.u8.wrap ((ownP l p.data.toList).length : Int)))) rfl ((stable_ext _).and (stable_cell _ _)) (fun g => (stable_cell _ _)) (by rfl) ?_ ?_
            · intro y hy; unfold jAt; go_simp; exact ⟨Ext.alloc _ _, rfl, by rw [World.cell?_alloc_at _ _ _ _ rfl]; rfl⟩
            intro g
            refine WX_take (i := 11) (v := ?_) rfl (by kernel_rfl) (by kernel_rfl) (by kernel_rfl) (((stable_ext _).and (stable_cell _ _)).and (stable_cell _ _)) (by rfl) ?_ ?_
            rotate_left
            · intro y hy; have q := conv_one' hy.2; unfold jAt; go_simp; refine ⟨Ext.refl _, ?_⟩; with_reducible rfl
            refine WX_take (i := 12) (v := ?_) rfl (by kernel_rfl) (by kernel_rfl) (by kernel_rfl) (((stable_ext _).and (stable_cell _ _)).and (stable_cell _ _)) (by rfl) ?_ ?_
            rotate_left
            · intro y hy; unfold jAt; go_simp; refine ⟨Ext.refl _, ?_⟩; with_reducible rfl
            refine WX_take (i := 14) (v := ?_) rfl (by kernel_rfl) (by kernel_rfl) (by kernel_rfl) (((stable_ext _).and (stable_cell _ _)).and (stable_cell _ _)) (by rfl) ?_ ?_
            rotate_left
            · intro y hy; unfold jAt; go_simp; refine ⟨Ext.refl _, ?_⟩; with_reducible rfl
            refine WX_take (i := 19) (v := ?_) rfl (by kernel_rfl) (by kernel_rfl) (by kernel_rfl) (((stable_ext _).and (stable_cell _ _)).and (stable_cell _ _)) (by rfl) ?_ ?_
            rotate_left
            · intro y hy; unfold jAt; go_simp; refine ⟨Ext.refl _, ?_⟩; with_reducible rfl
            refine WX_take (i := 21) (v := ?_) rfl (by kernel_rfl) (by kernel_rfl) (by kernel_rfl) (((stable_ext _).and (stable_cell _ _)).and (stable_cell _ _)) (by rfl) ?_ ?_
            rotate_left
            · intro y hy; unfold jAt; go_simp; refine ⟨Ext.refl _, ?_⟩; with_reducible rfl
            refine WX_take (i := 22) (v := ?_) rfl (by kernel_rfl) (by kernel_rfl) (by kernel_rfl) (((stable_ext _).and (stable_cell _ _)).and (stable_cell _ _)) (by rfl) ?_ ?_
            rotate_left
            · intro y hy; unfold jAt; go_simp; refine ⟨Ext.refl _, ?_⟩; with_reducible rfl
            refine WX_done (by kernel_rfl) ?_ _
            intro y hy
            have HBy : Hid (Ext wr y) := hy.1.1
            clear hy
            go_simp
            go_wp2
            go_ret
            refine ⟨ret_str ?_, HBQ.out.trans (Below.mono HBy.out HBQ.out.size)⟩
            exact FIN.out

end Go.Proofs.YtocbogeoffeolaaGreatDoor

