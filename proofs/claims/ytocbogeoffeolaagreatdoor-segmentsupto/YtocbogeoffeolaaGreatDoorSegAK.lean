/-
  WALKS: the program's own: appendNode.
  WALKS: the program's own: appendGone.
-/
import Derived.Test.YtocbogeoffeolaaGreatDoorSegAG
import Derived.Test.YtocbogeoffeolaaGreatDoorSegAJ
import Derived.Sort.OwnSorted
namespace Go.Proofs.YtocbogeoffeolaaGreatDoor
open Go.RowKit Go.Maps

/-- What is asked of the writing of a node. -/
def WrN (f : Nat) : Prop := ∀ (base : Nat) (v : Value) (l : Wd) (label : ByteArray) (p : Wd) (vL : Value) (L : List Ent) (w : World), OutB w base v l → LvR w vL L → base ≤ w.heap.size → (∀ e ∈ L, okE e ∧ p <+: keyE e) → RisingK L → L.length ≤ 255 → p.length ≤ 24 → 25 ≤ f + p.length →
    l.length + (pieceL label.data.toList ++ wrBody f p.length L).length ≤ 549755813888 → label.size ≤ 1099511627776 →
    Calls Tryz.prog 132 #[v, .string label, .int .i64 p.length, vL] w (AppO base w v l (pieceL label.data.toList ++ wrBody f p.length L))

theorem LvR.tail {w : World} {a : Option Addr} {n cap : Nat} {L : List Ent} (h : LvR w (.slice a n cap) L) (k : Nat) (hk : k ≤ L.length) : LvR w (.slice (a.map fun x => x.add (k * 5)) (L.length - k) (cap - k)) (L.drop k) := by
  obtain ⟨a', c', e, h1, h2, h3⟩ := h
  simp only [Value.slice.injEq] at e
  obtain ⟨rfl, _, rfl⟩ := e
  refine ⟨_, cap - k, by rw [List.length_drop], by rw [List.length_drop]; omega, by omega, fun i hi => ?_⟩
  rw [List.length_drop] at hi
  obtain ⟨b, off, e, hL⟩ := h3 (k + i) (by omega)
  refine ⟨b, off + k * 5, by rw [e]; simp only [Option.map_some, Addr.add]; split <;> simp_all, ?_⟩
  rw [List.getElem_drop, show off + k * 5 + i * 5 = off + (k + i) * 5 by omega]
  exact hL
theorem LvR.tail0 {w : World} {a : Option Addr} {n c k : Nat} {L : List Ent} (h : LvR w (.slice a n c) L) (hck : c = k) (hk : k ≤ L.length) : LvR w (.slice a (L.length - k) 0) (L.drop k) := by
  obtain ⟨a', c', e, h1, h2, h3⟩ := h
  simp only [Value.slice.injEq] at e
  obtain ⟨rfl, _, rfl⟩ := e
  have hz : L.drop k = [] := List.drop_eq_nil_of_le (by omega)
  rw [hz]
  exact ⟨a, 0, by simp; omega, Nat.le_refl _, Nat.zero_le _, fun i hi => by simp at hi⟩
theorem kid {p : Wd} {L : List Ent} {hn : Nat} {C : List Ent} (hL : RisingK L) (hp : ∀ e ∈ L, p <+: keyE e) (hS : ∀ e ∈ L.drop hn, keyE e ≠ p) (hC : C ∈ runs p.length (L.drop hn)) :
    C ≠ [] ∧ RisingK C ∧ (∀ e ∈ C, e ∈ L ∧ comL C <+: keyE e) ∧ p <+: comL C ∧ p.length < (comL C).length ∧ C.length ≤ L.length := by
  obtain ⟨hs, r1, r2, r3, r4, r5, r6⟩ := runs_parts p _ (List.Pairwise.sublist (List.drop_sublist hn L) hL) (fun e he => ⟨hp e (List.mem_of_mem_drop he), hS e he⟩)
  rw [r1] at hC
  obtain ⟨x, hx, rfl⟩ := List.mem_map.1 hC
  have hne := (r3 x hx).1
  have hst := com_is x.2 hne (r5 x hx)
  have hpre : p ++ [x.1] <+: comL x.2 := by
    rw [← hst]
    refine (stem_is hne).2 _ (fun s hs => ?_)
    obtain ⟨e, he, rfl⟩ := List.mem_map.1 hs
    exact (r3 x hx).2 e he
  have hsub : x.2.Sublist (L.drop hn) := by
    rw [← r4]
    exact List.sublist_flatten_of_mem (List.mem_map.2 ⟨x, hx, rfl⟩)
  refine ⟨hne, r5 x hx, fun e he => ⟨List.mem_of_mem_drop (hsub.subset he), ?_⟩, (List.prefix_append _ _).trans hpre, ?_, ?_⟩
  · rw [← hst]
    exact (stem_is hne).1 _ (List.mem_map.2 ⟨e, he, rfl⟩)
  · have := hpre.length_le
    simp at this
    omega
  · have h1 := hsub.length_le
    rw [List.length_drop] at h1
    omega
theorem pre_long {p s : Wd} (h : p <+: s) (hn : s ≠ p) : p.length < s.length := by
  have h1 := h.length_le
  by_cases e : p.length = s.length
  · exact absurd (h.eq_of_length e).symm hn
  · omega

theorem runs_len (d : Nat) : ∀ L : List Ent, (runs d L).length ≤ L.length := by
  intro L
  induction L with
  | nil => simp [runs]
  | cons e l ih =>
    unfold runs
    split
    · simp
    · next h => rw [h] at ih; simp at ih ⊢; omega
    · next h =>
      rw [h] at ih
      split
      · simp at ih ⊢; omega
      · simp at ih ⊢; omega

theorem wrBody_succ (f d : Nat) (L : List Ent) : wrBody (f + 1) d L = threeL (maxW L) ++ (u8 (hereN L d) :: ((L.take (hereN L d)).flatMap entB ++ (u8 (runs d (L.drop (hereN L d))).length :: (runs d (L.drop (hereN L d))).flatMap fun C => pieceL ((comL C).drop d) ++ wrBody f (comL C).length C))) := rfl

set_option maxHeartbeats 8000000 in
set_option maxRecDepth 100000 in
theorem wrNode : ∀ f, WrN f := by
  intro f
  induction f with
  | zero => intro base v l label p vL L w _ _ _ _ _ _ h24 h25; omega
  | succ f ih =>
    intro base v l label p vL L w hO hL hbase hok hrs hlen h24 h25 hbig hlab
    obtain ⟨i0, hi, hz0, hz1, hz2⟩ := info_parts Tryz.info5
    obtain ⟨a, c, rfl⟩ := hO.form
    obtain ⟨aL, cL, rfl, hcL, hmL, hrL⟩ := id hL
    have HIH : Hid (WrN f) := ih
    have HOK : Hid (∀ e ∈ L, okE e ∧ p <+: keyE e) := hok
    have HRS : Hid (RisingK L) := hrs
    have HL0 : Hid (LvR w (.slice aL L.length cL) L) := hL
    have HO0 : Hid (OutB w base (.slice a l.length c) l) := hO
    -- what is written, piece by piece
    obtain ⟨N, hN⟩ : ∃ N, N = l ++ (pieceL label.data.toList ++ wrBody (f + 1) p.length L) := ⟨_, rfl⟩
    have HN : Hid (N = l ++ (pieceL label.data.toList ++ wrBody (f + 1) p.length L)) := hN
    have hNl : N.length ≤ 549755813888 := by rw [hN, List.length_append]; exact hbig
    have hwp : 0 ≤ maxW L := maxW_pos L
    have hwm : maxW L ≤ 1000000 := maxW_le (fun e he => (hok e he).1.2.2.2.2.2.1)
    have hhl := here_le L p.length
    have hA1 := appendString_any base _ l label w hO (by have := congrArg List.length hN; simp at this; omega) hlab hbase
    unfold maxLen at hmL
    clear ih hok hrs hL hO hbig hN hrL
    go_enter Tryz.func132, Tryz.ntmps132
    go_wp2_with fail
    refine hA1.mono ?_
    rintro e1 w1 ⟨v1, rfl, hO1, hW1⟩
    obtain ⟨L1, hL1⟩ : ∃ L1, L1 = l ++ pieceL label.data.toList := ⟨_, rfl⟩
    have HL1 : Hid (L1 = l ++ pieceL label.data.toList) := hL1
    rw [← hL1] at hO1
    have HLv1 : Hid (LvR w1 (.slice aL L.length cL) L) := HL0.out.wrote HO0.out hW1
    have HW1 : Hid (Wrote w w1 (.slice a l.length c) v1) := hW1
    obtain ⟨a1, c1, rfl⟩ := hO1.form
    have HO1 : Hid (OutB w1 base (.slice a1 L1.length c1) L1) := hO1
    have hz1' := hW1.1.size
    have hG := greatest_any _ L w1 HLv1.out
    clear hA1 hO1 hW1 hL1 HL0 HO0
    go_wp2_with fail
    refine hG.mono ?_
    rintro e2 w2 ⟨rfl, hb2⟩
    have HO2 : Hid (OutB w2 base (.slice a1 L1.length c1) L1) := HO1.out.below hb2
    have HLv2 : Hid (LvR w2 (.slice aL L.length cL) L) := HLv1.out.below hb2
    have HW2 : Hid (Wrote w w2 (.slice a l.length c) (.slice a1 L1.length c1)) := HW1.out.trans (Wrote.below hb2 _)
    have hz2' := hb2.size
    have hl1 : L1.length ≤ N.length := by rw [HN.out, HL1.out]; simp
    have hA3 := appendWeight_any base _ L1 (maxW L) w2 HO2.out (by omega) hwp hwm (by omega)
    clear hG hb2 HO1 HLv1 HW1
    go_wp2_with fail
    refine hA3.mono ?_
    rintro e3 w3 ⟨v3, rfl, hO3, hW3⟩
    obtain ⟨L3, hL3⟩ : ∃ L3, L3 = L1 ++ threeL (maxW L) := ⟨_, rfl⟩
    have HL3 : Hid (L3 = L1 ++ threeL (maxW L)) := hL3
    rw [← hL3] at hO3
    have HLv3 : Hid (LvR w3 (.slice aL L.length cL) L) := HLv2.out.wrote HO2.out hW3
    have HW3 : Hid (Wrote w w3 (.slice a l.length c) v3) := HW2.out.trans hW3
    obtain ⟨a3, c3, rfl⟩ := hO3.form
    have HO3 : Hid (OutB w3 base (.slice a3 L3.length c3) L3) := hO3
    have hz3' := hW3.1.size
    have hC := countEnding_any _ L p.length w3 HLv3.out
    clear hA3 hO3 hW3 hL3 HO2 HLv2 HW2
    go_wp2_with fail
    refine hC.mono ?_
    rintro e4 w4 ⟨rfl, hb4⟩
    have HO4 : Hid (OutB w4 base (.slice a3 L3.length c3) L3) := HO3.out.below hb4
    have HLv4 : Hid (LvR w4 (.slice aL L.length cL) L) := HLv3.out.below hb4
    have HW4 : Hid (Wrote w w4 (.slice a l.length c) (.slice a3 L3.length c3)) := HW3.out.trans (Wrote.below hb4 _)
    have hz4' := hb4.size
    obtain ⟨hn, hhn⟩ : ∃ hn, hereN L p.length = hn := ⟨_, rfl⟩
    have HH : Hid (hereN L p.length = hn) := hhn
    rw [hhn] at hhl ⊢
    obtain ⟨Cs, hCs⟩ : ∃ Cs, Cs = runs p.length (L.drop hn) := ⟨_, rfl⟩
    have HCs : Hid (Cs = runs p.length (L.drop hn)) := hCs
    have HN3 : Hid (N = L3 ++ [u8 hn] ++ ((L.take hn).flatMap entB ++ (u8 Cs.length :: Cs.flatMap fun C => pieceL ((comL C).drop p.length) ++ wrBody f (comL C).length C))) := by
      show _ = _
      rw [HN.out, HL3.out, HL1.out, wrBody_succ, hCs, hhn]
      simp
    clear hCs
    have hl3 : L3.length + 1 ≤ N.length := by rw [HN3.out]; simp
    clear hC hb4 HO3 HLv3 HW3 hhn
    go_wp2_with (first
      | (at_builtin; refine wpList_append_full _ rfl _ _ 60 rfl base 5 i0 (.int .u8 0) 1 Tryz.underlying60 hi hz0 hz1 hz2 rfl _ _ _ rfl (HO4.out.alloc _) _ [.int .u8 (hn : Int)] rfl (Rd.one cell_new) (by simp [Value.oneCell']) ?c1 ?c2 ?c3 ?_))
    case c1 => simp; omega
    case c2 => unfold maxLen; simp; omega
    case c3 => simp; omega
    intro v5 w5 hown5 hg5 hl5
    obtain ⟨L5, hL5⟩ : ∃ L5, L5 = L3 ++ [u8 hn] := ⟨_, rfl⟩
    have HL5 : Hid (L5 = L3 ++ [u8 hn]) := hL5
    have HN5 : Hid (N = L5 ++ ((L.take hn).flatMap entB ++ (u8 Cs.length :: Cs.flatMap fun C => pieceL ((comL C).drop p.length) ++ wrBody f (comL C).length C))) := by
      show _ = _
      rw [HN3.out, ← hL5]
    have HO5 : Hid (OutB w5 base v5 L5) := by
      show OutB _ _ _ _
      unfold OutB
      rw [hL5, byteVals_append, byteVals_u8, List.length_append, show (hn : Int) % 256 = hn by omega]
      exact hown5
    have HW5 : Hid (Wrote w w5 (.slice a l.length c) v5) := HW4.out.trans (Wrote.of hg5 hl5)
    have HLv5 : Hid (LvR w5 (.slice aL L.length cL) L) := HLv4.out.wrote HO4.out (Wrote.of hg5 hl5)
    obtain ⟨a5, c5, rfl⟩ := HO5.out.form
    have hz5' := HW5.out.1.size
    clear hown5 hg5 hl5 hL5 HO4 HLv4 HW4
    go_wp2_with fail
    go_loopw [0, 35] (fun u i wr => ∃ k : Nat, k ≤ hn ∧ i = .int .i64 k ∧ OutB wr base u (L5 ++ (L.take k).flatMap entB) ∧ Wrote w wr (.slice a l.length c) u ∧ LvR wr (.slice aL L.length cL) L) (fun _ i _ => hn - (intOf i).toNat)
    case atStart => exact ⟨0, Nat.zero_le _, rfl, by simpa using HO5.out, HW5.out, HLv5.out⟩
    case round =>
      obtain ⟨k, hk, rfl, hO6, hW6, hLv6⟩ := hrel
      obtain ⟨L6, hL6⟩ : ∃ L6, L6 = L5 ++ (L.take k).flatMap entB := ⟨_, rfl⟩
      have HL6 : Hid (L6 = L5 ++ (L.take k).flatMap entB) := hL6
      rw [← hL6] at hO6
      obtain ⟨a6, c6, rfl⟩ := hO6.form
      have HO6 : Hid (OutB wr base (.slice a6 L6.length c6) L6) := hO6
      have HW6 : Hid (Wrote w wr (.slice a l.length c) (.slice a6 L6.length c6)) := hW6
      have HLv6 : Hid (LvR wr (.slice aL L.length cL) L) := hLv6
      have hz6' := hW6.1.size
      clear hO6 hW6 hLv6 hL6 HO5 HW5 HLv5
      by_cases hlt : k < hn
      · obtain ⟨_, _, e', _, _, hr⟩ := HLv6.out
        simp only [Value.slice.injEq, true_and] at e'
        obtain ⟨rfl, rfl⟩ := e'
        obtain ⟨b, off, rfl, hLf⟩ := hr k (by omega)
        have q0 := hLf.path
        have q1 := hLf.name
        have q2 := hLf.text
        have q3 := hLf.weight
        have q4 := hLf.tags
        clear hLf hr
        obtain ⟨wa, hwa⟩ : ∃ wa, wr.alloc (.cells #[.string ⟨(keyE L[k]).toArray⟩, .string ⟨L[k].name.toArray⟩, .string ⟨L[k].text.toArray⟩, .int .i64 L[k].weight, .int .i64 L[k].tags] 237) = wa := ⟨_, rfl⟩
        have hba : Below wr.heap.size wr wa := by rw [← hwa]; exact (Below.refl _ _).alloc (Nat.le_refl _) _
        have HWA : Hid (wr.alloc (.cells #[.string ⟨(keyE L[k]).toArray⟩, .string ⟨L[k].name.toArray⟩, .string ⟨L[k].text.toArray⟩, .int .i64 L[k].weight, .int .i64 L[k].tags] 237) = wa) := hwa
        have HOa : Hid (OutB wa base (.slice a6 L6.length c6) L6) := HO6.out.below hba
        have HWa : Hid (Wrote w wa (.slice a l.length c) (.slice a6 L6.length c6)) := HW6.out.trans (Wrote.below hba _)
        have HLva : Hid (LvR wa (.slice (some ⟨b, off, none⟩) L.length cL) L) := HLv6.out.below hba
        have hza := hba.size
        have HT : Hid (L.take (k + 1) = L.take k ++ [L[k]]) := List.take_succ_eq_append_getElem (by omega)
        have hl6 : L6.length ≤ N.length := by
          have e : L.take hn = L.take k ++ (L.take hn).drop k := by
            conv => lhs; rw [← List.take_append_drop k (L.take hn)]
            rw [List.take_take, Nat.min_eq_left hk]
          rw [HN5.out, HL6.out, e]
          simp
        have hA := appendEntry_any base _ L6 L[k] wa HOa.out (by omega) (HOK.out _ (List.getElem_mem _)).1 (by omega)
        unfold entV at hA
        clear hba hwa
        go_wp2_with fail
        rw [HWA.out]
        refine hA.mono ?_
        rintro e7 w7 ⟨v7, rfl, hO7, hW7⟩
        have HO7 : Hid (OutB w7 base v7 (L6 ++ entB L[k])) := hO7
        have HW7 : Hid (Wrote w w7 (.slice a l.length c) v7) := HWa.out.trans hW7
        have HLv7 : Hid (LvR w7 (.slice (some ⟨b, off, none⟩) L.length cL) L) := HLva.out.wrote HOa.out hW7
        clear hA hO7 hW7 q0 q1 q2 q3 q4
        go_wp2
        go_roundw
        case rel =>
          refine ⟨k + 1, by omega, by go_num, ?_, HW7.out, HLv7.out⟩
          have e : L5 ++ (L.take (k + 1)).flatMap entB = L6 ++ entB L[k] := by rw [HT.out, HL6.out, List.flatMap_append, List.append_assoc]; simp only [List.flatMap_cons, List.flatMap_nil, List.append_nil]
          rw [e]
          exact HO7.out
        case measure => simp [intOf]; omega
      · have hkn : k = hn := by omega
        subst hkn
        have HS : Hid (∀ e ∈ L.drop k, keyE e ≠ p) := by
          have := (here_split HRS.out (fun e he => (HOK.out e he).2)).2
          rw [HH.out] at this
          exact this
        have HK24 : Hid (∀ e ∈ L, (keyE e).length ≤ 24) := fun e he => (key_len (HOK.out e he).1).1
        have HSp : Hid (∀ (aT : Option Addr) (cT : Nat), LvR wr (.slice aT (L.length - k) cT) (L.drop k) → Calls Tryz.prog 182 #[.slice aT (L.length - k) cT, .int .i64 p.length] wr fun e w' => ∃ v', e = .returned v' ∧ PartsR w' v' (runs p.length (L.drop k)) ∧ Below wr.heap.size wr w') := fun aT cT h => split_any _ (L.drop k) p.length wr h (fun e he => pre_long (HOK.out e (List.mem_of_mem_drop he)).2 (HS.out e he)) (fun e he => HK24.out e (List.mem_of_mem_drop he)) (by rw [List.length_drop]; omega)
        go_wp2_with fail
        all_goals (
          refine (HSp.out _ _ (by first | exact HLv6.out.tail k hhl | exact HLv6.out.tail0 (by omega) hhl)).mono ?_
          rintro e7 w7 ⟨v7, rfl, hP7, hb7⟩
          rw [← HCs.out] at hP7
          obtain ⟨vs, hvs, hzip⟩ := id hP7
          obtain ⟨a7, c7, rfl, hc7⟩ := owns_slice hvs
          have HP7 : Hid (PartsR w7 (.slice a7 Cs.length c7) Cs) := hP7
          have HO7 : Hid (OutB w7 base (.slice a6 L6.length c6) L6) := HO6.out.below hb7
          have HW7 : Hid (Wrote w w7 (.slice a l.length c) (.slice a6 L6.length c6)) := HW6.out.trans (Wrote.below hb7 _)
          have hz7' := hb7.size
          have hcs : Cs.length ≤ 255 := by
            rw [HCs.out]
            have := runs_len p.length (L.drop k)
            rw [List.length_drop] at this
            omega
          have hl6 : L6.length + 1 ≤ N.length := by
            rw [HN5.out, HL6.out]
            simp
            omega
          clear HSp hP7 hvs hzip hb7 HO6 HW6 HLv6
          go_wp2_with (first
            | (at_builtin; refine wpList_append_full _ rfl _ _ 60 rfl base 5 i0 (.int .u8 0) 1 Tryz.underlying60 hi hz0 hz1 hz2 rfl _ _ _ rfl (HO7.out.alloc _) _ [.int .u8 (Cs.length : Int)] rfl (Rd.one cell_new) (by simp [Value.oneCell']) ?c1 ?c2 ?c3 ?_))
          case c1 => simp; omega
          case c2 => unfold maxLen; simp; omega
          case c3 => simp; omega
          intro v8 w8 hown8 hg8 hl8
          obtain ⟨L8, hL8⟩ : ∃ L8, L8 = L6 ++ [u8 Cs.length] := ⟨_, rfl⟩
          have HL8 : Hid (L8 = L6 ++ [u8 Cs.length]) := hL8
          have HN8 : Hid (N = L8 ++ Cs.flatMap fun C => pieceL ((comL C).drop p.length) ++ wrBody f (comL C).length C) := by
            show _ = _
            rw [HN5.out, hL8, HL6.out]
            simp
          have HO8 : Hid (OutB w8 base v8 L8) := by
            show OutB _ _ _ _
            unfold OutB
            rw [hL8, byteVals_append, byteVals_u8, List.length_append, show (Cs.length : Int) % 256 = Cs.length by omega]
            exact hown8
          have HW8 : Hid (Wrote w w8 (.slice a l.length c) v8) := HW7.out.trans (Wrote.of hg8 hl8)
          have HP8 : Hid (PartsR w8 (.slice a7 Cs.length c7) Cs) := HP7.out.wrote HO7.out (Wrote.of hg8 hl8)
          obtain ⟨a8, c8, rfl⟩ := HO8.out.form
          have hz8' := HW8.out.1.size
          clear hown8 hg8 hl8 hL8 HO7 HP7 HW7
          go_wp2_with fail
          go_loopw [0, 57] (fun u i wx => ∃ k : Nat, k ≤ Cs.length ∧ i = .int .i64 k ∧ OutB wx base u (L8 ++ (Cs.take k).flatMap fun C => pieceL ((comL C).drop p.length) ++ wrBody f (comL C).length C) ∧ Wrote w wx (.slice a l.length c) u ∧ PartsR wx (.slice a7 Cs.length c7) Cs) (fun _ i _ => Cs.length - (intOf i).toNat)
          case atStart => exact ⟨0, Nat.zero_le _, rfl, by simpa using HO8.out, HW8.out, HP8.out⟩
          case round =>
            obtain ⟨j, hj, rfl, hO9, hW9, hP9⟩ := hrel
            obtain ⟨L9, hL9⟩ : ∃ L9, L9 = L8 ++ (Cs.take j).flatMap fun C => pieceL ((comL C).drop p.length) ++ wrBody f (comL C).length C := ⟨_, rfl⟩
            have HL9 : Hid (L9 = L8 ++ (Cs.take j).flatMap fun C => pieceL ((comL C).drop p.length) ++ wrBody f (comL C).length C) := hL9
            rw [← hL9] at hO9
            obtain ⟨a9, c9, rfl⟩ := hO9.form
            have HO9 : Hid (OutB wr base (.slice a9 L9.length c9) L9) := hO9
            have HW9 : Hid (Wrote w wr (.slice a l.length c) (.slice a9 L9.length c9)) := hW9
            have HP9 : Hid (PartsR wr (.slice a7 Cs.length c7) Cs) := hP9
            have hz9' := hW9.1.size
            clear hO9 hW9 hP9 hL9 HO8 HW8 HP8
            by_cases hlt : j < Cs.length
            · obtain ⟨vs, hvs, hzip⟩ := id HP9.out
              have hvl : j < vs.length := by rw [hzip.1]; exact hlt
              obtain ⟨b7, o7, rfl, hcell⟩ := owns_cell hvs j vs[j] (List.getElem?_eq_getElem hvl)
              have HLc : Hid (LvR wr vs[j] Cs[j]) := by
                obtain ⟨u, hu1, hu2⟩ := hzip.2 j hlt
                rw [List.getElem?_eq_getElem hvl] at hu1
                cases hu1
                exact hu2
              have HT : Hid (Cs.take (j + 1) = Cs.take j ++ [Cs[j]]) := List.take_succ_eq_append_getElem hlt
              obtain ⟨kne, kris, kall, kpre, klen, ksz⟩ := kid (C := Cs[j]) HRS.out (fun e he => (HOK.out e he).2) HS.out (by rw [← HCs.out]; exact List.getElem_mem _)
              have hl9 : L9.length + (pieceL ((comL Cs[j]).drop p.length) ++ wrBody f (comL Cs[j]).length Cs[j]).length ≤ N.length := by
                have e : Cs = Cs.take (j + 1) ++ Cs.drop (j + 1) := (List.take_append_drop _ _).symm
                rw [HT.out] at e
                rw [HN8.out, HL9.out]
                conv => rhs; rw [e]
                simp only [List.flatMap_append, List.flatMap_cons, List.flatMap_nil, List.length_append, List.append_nil]
                omega
              obtain ⟨aC, cC, eC, hcC, hmC, hrC⟩ := id HLc.out
              have HLc' : Hid (LvR wr (.slice aC Cs[j].length cC) Cs[j]) := by have h := HLc.out; rw [eC] at h; exact h
              rw [eC] at hcell
              have hcpos := len_pos kne
              obtain ⟨bC, oC, rfl, hLf⟩ := hrC 0 hcpos
              have q0 := hLf.path
              rw [Nat.zero_mul, Nat.add_zero] at q0
              clear hLf hrC HLc hzip hvs eC hvl
              have hcom24 : (comL Cs[j]).length ≤ 24 := Nat.le_trans (kall _ (List.getElem_mem hcpos)).2.length_le (key_len (HOK.out _ (kall _ (List.getElem_mem hcpos)).1).1).1
              have HKall : Hid (∀ e ∈ Cs[j], e ∈ L ∧ comL Cs[j] <+: keyE e) := kall
              have hkk : (comL Cs[j]).length ≤ (keyE Cs[j][0]).length := (kall _ (List.getElem_mem hcpos)).2.length_le
              have hk024 : (keyE Cs[j][0]).length ≤ 24 := HK24.out _ (kall _ (List.getElem_mem hcpos)).1
              have HKr : Hid (RisingK Cs[j]) := kris
              have HKp : Hid (p <+: comL Cs[j]) := kpre
              have hCm := common_any _ Cs[j] wr HLc'.out kne (fun e he => HK24.out e (kall e he).1)
              have hsA : (⟨(keyE Cs[j][0]).toArray⟩ : ByteArray).size = (keyE Cs[j][0]).length := by show (keyE Cs[j][0]).toArray.size = _; simp
              clear kall kris kpre kne
              go_wp2_with fail
              refine hCm.mono ?_
              rintro e10 w10 ⟨rfl, hb10⟩
              have q0' := cell_later hb10 q0
              have HO10 : Hid (OutB w10 base (.slice a9 L9.length c9) L9) := HO9.out.below hb10
              have HLc10 : Hid (LvR w10 (.slice (some ⟨bC, oC, none⟩) Cs[j].length cC) Cs[j]) := HLc'.out.below hb10
              have HP10 : Hid (PartsR w10 (.slice (some ⟨b7, o7, none⟩) Cs.length c7) Cs) := HP9.out.below hb10
              have HW10 : Hid (Wrote w w10 (.slice a l.length c) (.slice a9 L9.length c9)) := HW9.out.trans (Wrote.below hb10 _)
              have hz10' := hb10.size
              clear hCm hb10 HO9 HLc' HP9 HW9 q0 hcell
              obtain ⟨lab, hlab'⟩ : ∃ lab, (⟨(keyE Cs[j][0]).toArray⟩ : ByteArray).extract p.length (comL Cs[j]).length = lab := ⟨_, rfl⟩
              have hlist : lab.data.toList = (comL Cs[j]).drop p.length := by
                have h := (HKall.out _ (List.getElem_mem hcpos)).2
                rw [← hlab', show (comL Cs[j]).length = p.length + ((comL Cs[j]).length - p.length) by omega, ext_mid]
                show (((keyE Cs[j][0]).drop p.length).take _) = _
                rw [← List.drop_take, ← List.prefix_iff_eq_take.1 h]
              have HLab : Hid ((⟨(keyE Cs[j][0]).toArray⟩ : ByteArray).extract p.length (comL Cs[j]).length = lab) := hlab'
              have hlabs : lab.size ≤ 1099511627776 := by
                have : lab.size = lab.data.toList.length := by simp
                rw [this, hlist]
                simp
                omega
              have hR := HIH.out base _ L9 lab (comL Cs[j]) _ Cs[j] w10 HO10.out HLc10.out (by omega) (fun e he => ⟨(HOK.out e (HKall.out e he).1).1, (HKall.out e he).2⟩) HKr.out (by omega) hcom24 (by omega) (by rw [hlist]; omega) hlabs
              rw [hlist] at hR
              clear hlab' hlist
              go_wp2_with fail
              rw [HLab.out]
              refine hR.mono ?_
              rintro e11 w11 ⟨v11, rfl, hO11, hW11⟩
              have HO11 : Hid (OutB w11 base v11 (L9 ++ (pieceL ((comL Cs[j]).drop p.length) ++ wrBody f (comL Cs[j]).length Cs[j]))) := hO11
              have HW11 : Hid (Wrote w w11 (.slice a l.length c) v11) := HW10.out.trans hW11
              have HP11 : Hid (PartsR w11 (.slice (some ⟨b7, o7, none⟩) Cs.length c7) Cs) := HP10.out.wrote HO10.out hW11
              clear hR hO11 hW11 q0'
              go_wp2
              go_roundw
              case rel =>
                refine ⟨j + 1, by omega, by go_num, ?_, HW11.out, HP11.out⟩
                have e : (L8 ++ (Cs.take (j + 1)).flatMap fun C => pieceL ((comL C).drop p.length) ++ wrBody f (comL C).length C) = L9 ++ (pieceL ((comL Cs[j]).drop p.length) ++ wrBody f (comL Cs[j]).length Cs[j]) := by
                  rw [HT.out, HL9.out, List.flatMap_append, List.append_assoc]
                  simp only [List.flatMap_cons, List.flatMap_nil, List.append_nil]
                rw [e]
                exact HO11.out
              case measure => simp [intOf]; omega
            · have HE : Hid (L9 = l ++ (pieceL label.data.toList ++ wrBody (f + 1) p.length L)) := by
                show _ = _
                rw [← HN.out, HN8.out, HL9.out, List.take_of_length_le (by omega)]
              go_wp2
              go_ret
              refine ⟨_, rfl, ?_, HW9.out⟩
              rw [← HE.out]
              exact HO9.out)

end Go.Proofs.YtocbogeoffeolaaGreatDoor

namespace Go.Proofs.YtocbogeoffeolaaGreatDoor
open Go.RowKit Go.Maps

def gonesL (es : List Ent) : List Wd := (es.filter fun e => e.gone).map Ent.name
theorem gones_snoc (l : List Ent) (e : Ent) : gonesL (l ++ [e]) = gonesL l ++ (if e.gone then [e.name] else []) := by
  unfold gonesL
  rw [List.filter_append, List.map_append]
  cases h : e.gone <;> simp [h]
theorem gones_le (l : List Ent) : (gonesL l).length ≤ l.length := by unfold gonesL; rw [List.length_map]; exact List.length_filter_le _ _
theorem gones_perm {l m : List Ent} (h : l.Perm m) : (gonesL l).Perm (gonesL m) := (h.filter _).map _

/-- Sorted by the library, the names of what is gone are as the reference has them. -/
theorem gones_sorted {vis es : List Ent} (hnd : (es.map Ent.name).Nodup) (h : vis.Perm es) : (gonesL vis).mergeSort (fun x y => decide (x ≤ y)) = gonesL (sortN es) := by
  have hp : ((gonesL vis).mergeSort (fun x y => decide (x ≤ y))).Perm (gonesL (sortN es)) := (List.mergeSort_perm _ _).trans (gones_perm (h.trans (sortN_perm es).symm))
  refine List.Perm.eq_of_pairwise (le := fun a b : Wd => a ≤ b) (fun a b _ _ h1 h2 => List.le_antisymm h1 h2) ?_ ?_ hp
  · have := List.pairwise_mergeSort (le := fun x y : Wd => decide (x ≤ y)) (by
      intro a b c h1 h2
      simp only [decide_eq_true_eq] at *
      exact List.le_trans h1 h2) (by
      intro a b
      simp only [Bool.or_eq_true, decide_eq_true_eq]
      exact List.le_total a b) (gonesL vis)
    exact this.imp (fun h => by simpa using h)
  · unfold gonesL
    rw [List.pairwise_map]
    refine List.Pairwise.imp ?_ (List.Pairwise.sublist List.filter_sublist (rising_sortN es hnd))
    intro a b hab
    unfold nmB at hab
    rw [bytesLess_eq, decide_eq_true_eq] at hab
    exact List.le_of_lt hab

/-- The sort of a row of strings that the call owns. -/
theorem sort_strs (base : Nat) (a : Option Addr) (c : Nat) (G : List Wd) (w : World) (hown : w.ownsRow base 9 1 (.slice a G.length c) G.length (strVals G)) (hl : G.length ≤ 1099511627776) :
    Calls Tryz.prog 162 #[.slice a G.length c] w fun e w' => e = .returned (.tuple #[]) ∧ w'.ownsRow base 9 1 (.slice a G.length c) G.length (strVals (G.mergeSort fun x y => decide (x ≤ y))) ∧ Below base w w' := by
  rcases hown.2 with ⟨he, hn⟩ | ⟨g, cap, cur, he, hbase, hb, h1, h2, h3, h4⟩
  · have hG : G = [] := List.length_eq_zero_iff.1 (by simpa using hn)
    subst hG
    have hcon := Any.slices_Sort_string_none Tryz.lays190 a c w
    refine hcon.mono ?_
    rintro e w' ⟨rfl, rfl⟩
    exact ⟨rfl, by simpa using hown, Below.refl _ _⟩
  · simp only [Value.slice.injEq] at he
    obtain ⟨rfl, _, rfl⟩ := he
    have hcon := Any.slices_Sort_string Tryz.lays190 g 0 c G w (holds_of_block hb (by simpa [strVals, encStr] using h4)) (Array.getElem?_eq_some_iff.1 hb).1 (by omega)
    refine hcon.mono ?_
    rintro e w' ⟨rfl, n, os, rfl⟩
    refine ⟨rfl, ?_, ?_⟩
    · exact ownsRow_sorted (by simp) hbase hb h1 h2 h3
    · have hgr : w.grownBy _ (some g) := grownBy_sorted (w := w) (g := g) (n := n) (os := os) (G.mergeSort fun x y => decide (x ≤ y)).toArray
      exact ⟨hgr.os, hgr.tape, hgr.output, hgr.size, fun k hk => hgr.block k (Nat.lt_of_lt_of_le hk (by have := (Array.getElem?_eq_some_iff.1 hb).1; omega)) (by intro e; cases e; omega)⟩

theorem cell_new_at {w : World} {v : Value} {t : TypeId} {g : Nat} (hg : g = w.heap.size) : (w.alloc (.cells #[v] t)).cell? ⟨g, 0, none⟩ = some v := by subst hg; exact cell_new
theorem pieces_le : ∀ S : List Wd, (∀ x ∈ S, x.length ≤ 255) → (S.flatMap pieceL).length ≤ S.length * 256 := by
  intro S
  induction S with
  | nil => intro _; simp
  | cons x S ih =>
    intro h
    have h1 := ih (fun y hy => h y (List.mem_cons_of_mem _ hy))
    have h2 := h x (List.mem_cons_self ..)
    rw [List.flatMap_cons, List.length_append, List.length_cons]
    have : (pieceL x).length = x.length + 1 := by simp [pieceL]
    omega
theorem Wrote.low {w0 w w' : World} {v v' : Value} {base : Nat} {l : Wd} (h : Wrote w w' v v') (hb : Below w0.heap.size w0 w) (ho : OutB w base v l) (hl : w0.heap.size ≤ base) : Below w0.heap.size w0 w' := by
  refine hb.trans ⟨h.1.os, h.1.tape, h.1.output, h.1.size, fun k hk => h.1.block k (Nat.lt_of_lt_of_le hk hb.size) (fun e => ?_)⟩
  have := (ho.lt k e).1
  omega
/-- What appendGone writes. -/
def goneB (es : List Ent) : Wd := u8 (gonesL (sortN es)).length :: (gonesL (sortN es)).flatMap pieceL

set_option maxHeartbeats 4000000 in
set_option maxRecDepth 100000 in
theorem appendGone_any (B : Nat) (es : List Ent) (w : World) (hs : SayM w B es) (hl : es.length < 1099511627776) (hg : goneN es ≤ 255) (hsh : ∀ e ∈ es, e.gone = true → e.name.length ≤ 255) :
    Calls Tryz.prog 131 #[.slice none 0 0, .map (some B)] w fun en w' => ∃ v, en = .returned v ∧ OutB w' w.heap.size v (goneB es) ∧ Below w.heap.size w w' := by
  obtain ⟨i0, hi, hz0, hz1, hz2⟩ := info_parts Tryz.info5
  obtain ⟨i9, hi9, hy0, hy1, hy2⟩ := info_parts Tryz.info9
  have hnd := hs.nodup
  have HS : Hid (SayM w B es) := hs
  have HND : Hid ((es.map Ent.name).Nodup) := hnd
  have HSH : Hid (∀ e ∈ es, e.gone = true → e.name.length ≤ 255) := hsh
  have hBl := MapL.lt hs
  clear hs hnd hsh
  go_enter Tryz.func131, Tryz.ntmps131
  go_wp2_with (first | (at_range; refine wpList_rangeS _ rfl _ rfl rfl HS.out ?_; intro w1 hrg0 hg0 hs0))
  go_frame
  go_loopw [5] (fun g wr => ∃ (vis rst : List Ent), (vis ++ rst).Perm es ∧ SayR wr B w.heap.size es rst ∧ wr.ownsRow (w.heap.size + 1) 9 1 g (gonesL vis).length (strVals (gonesL vis)) ∧ Below w.heap.size w wr ∧ w.heap.size + 1 ≤ wr.heap.size) (fun _ wr => wr.rangeLeft B w.heap.size)
  case atStart => exact ⟨[], es, List.Perm.refl _, hrg0, World.ownsRow_nil _ _ _ _, (Below.refl _ _).grown hg0 (Nat.le_refl _) (fun k hk => by cases hk), by omega⟩
  case round =>
    obtain ⟨vis, rst, hperm, hr, hown, hb, hz⟩ := hrel
    have HP : Hid ((vis ++ rst).Perm es) := hperm
    have HR : Hid (SayR wr B w.heap.size es rst) := hr
    obtain ⟨ag, cg, rfl, hcg⟩ := owns_slice hown
    have HO : Hid (wr.ownsRow (w.heap.size + 1) 9 1 (.slice ag (gonesL vis).length cg) (gonesL vis).length (strVals (gonesL vis))) := hown
    have HB : Hid (Below w.heap.size w wr) := hb
    have hvl : (gonesL vis).length ≤ es.length := by
      have h1 := gones_le vis
      have h2 := hperm.length_eq
      rw [List.length_append] at h2
      omega
    clear hperm hr hb hown
    go_wp2_with (first | (at_next; refine wpList_nextS _ rfl _ rfl w.heap.size rst rfl HR.out ?_ ?_))
    · intro h0
      have hE : vis.Perm es := by
        have := HP.out
        rw [h0, List.append_nil] at this
        exact this
      obtain ⟨S, hS⟩ : ∃ S, S = gonesL (sortN es) := ⟨_, rfl⟩
      have hso := sort_strs (w.heap.size + 1) ag cg (gonesL vis) wr HO.out (by omega)
      rw [gones_sorted HND.out hE, ← hS] at hso
      have HSL : Hid (S.length = (gonesL vis).length) := by show _ = _; rw [hS]; exact (gones_perm (hE.trans (sortN_perm es).symm)).length_eq.symm
      have hsl : S.length ≤ 255 := by
        rw [hS]
        have h1 := (gones_perm (sortN_perm es)).length_eq
        have h2 : (gonesL es).length = goneN es := by simp [gonesL, goneN]
        omega
      have HSS : Hid (∀ x ∈ S, x.length ≤ 255) := by
        intro x hx
        rw [hS] at hx
        have hx2 := (gones_perm (sortN_perm es)).mem_iff.1 hx
        unfold gonesL at hx2
        obtain ⟨e, he, rfl⟩ := List.mem_map.1 hx2
        rw [List.mem_filter] at he
        exact HSH.out e he.1 (by simpa using he.2)
      have HS1 : Hid (S = gonesL (sortN es)) := hS
      clear h0 hE hS
      go_wp2_with fail
      refine hso.mono ?_
      rintro e2 w2 ⟨rfl, hO2, hb2⟩
      have hzz2 := hb2.size
      have HB2 : Hid (Below w.heap.size w w2) := HB.out.trans (hb2.mono (by omega))
      have hgl : (gonesL vis).length ≤ 255 := by have := HSL.out; omega
      rw [← HSL.out] at hO2 ⊢
      have HO2 : Hid (w2.ownsRow (w.heap.size + 1) 9 1 (.slice ag S.length cg) S.length (strVals S)) := hO2
      have HN2 : Hid (w2.ownsRow w.heap.size 5 1 (.slice none 0 0) 0 []) := World.ownsRow_nil _ _ _ _
      clear hso hO2 hb2 HO HR hgl hvl
      clear hcg HSL
      go_wp2_with (first
        | (at_builtin; refine wpList_append_full _ rfl _ _ 60 rfl w.heap.size 5 i0 (.int .u8 0) 1 Tryz.underlying60 hi hz0 hz1 hz2 rfl _ _ _ rfl (HN2.out.alloc _) _ [.int .u8 (S.length : Int)] rfl (Rd.one cell_new) (by simp [Value.oneCell']) ?c1 ?c2 ?c3 ?_))
      case c1 => simp
      case c2 => unfold maxLen; simp
      case c3 => simp; omega
      intro v3 w3 hown3 hg3 hl3
      have HO3 : Hid (OutB w3 w.heap.size v3 [u8 S.length]) := by
        show OutB _ _ _ _
        unfold OutB
        rw [byteVals_u8, show (S.length : Int) % 256 = S.length by omega]
        simpa using hown3
      have hW3 : Wrote w2 w3 (.slice none 0 0) v3 := Wrote.of hg3 hl3
      have hb3 : Below w2.heap.size w2 w3 := ⟨hW3.1.os, hW3.1.tape, hW3.1.output, hW3.1.size, fun k hk => hW3.1.block k hk (by simp [Value.ownBlock])⟩
      have HB3 : Hid (Below w.heap.size w w3) := HB2.out.trans (hb3.mono (by omega))
      have HG3 : Hid (w3.ownsRow (w.heap.size + 1) 9 1 (.slice ag S.length cg) S.length (strVals S)) := owns_stay HO2.out (fun k hk => hb3.block k (HO2.out.lt k hk).2)
      obtain ⟨a3, c3, rfl⟩ := HO3.out.form
      have hz3 := hb3.size
      clear hown3 hg3 hl3 hW3 hb3 HN2 HO2 HB2
      have HPL : Hid (∀ k, k ≤ S.length → (u8 S.length :: (S.take k).flatMap pieceL).length ≤ 65536) := by
        intro k hk
        have h1 := pieces_le (S.take k) (fun x hx => HSS.out x (List.mem_of_mem_take hx))
        rw [List.length_take, Nat.min_eq_left hk] at h1
        rw [List.length_cons]
        omega
      go_wp2_with fail
      go_loopw [0, 33] (fun u i wx => ∃ k : Nat, k ≤ S.length ∧ i = .int .i64 k ∧ OutB wx w.heap.size u (u8 S.length :: (S.take k).flatMap pieceL) ∧ wx.ownsRow (w.heap.size + 1) 9 1 (.slice ag S.length cg) S.length (strVals S) ∧ Below w.heap.size w wx) (fun _ i _ => S.length - (intOf i).toNat)
      case atStart => exact ⟨0, Nat.zero_le _, rfl, by simpa using HO3.out, HG3.out, HB3.out⟩
      case round =>
        obtain ⟨k, hk, rfl, hO4, hG4, hb4⟩ := hrel
        obtain ⟨L4, hL4⟩ : ∃ L4, L4 = u8 S.length :: (S.take k).flatMap pieceL := ⟨_, rfl⟩
        have HL4 : Hid (L4 = u8 S.length :: (S.take k).flatMap pieceL) := hL4
        have hl4 : L4.length ≤ 65536 := by rw [hL4]; exact HPL.out k hk
        rw [← hL4] at hO4
        obtain ⟨a4, c4, rfl⟩ := hO4.form
        have HO4 : Hid (OutB wr w.heap.size (.slice a4 L4.length c4) L4) := hO4
        have HG4 : Hid (wr.ownsRow (w.heap.size + 1) 9 1 (.slice ag S.length cg) S.length (strVals S)) := hG4
        have HB4 : Hid (Below w.heap.size w wr) := hb4
        have hz4 := hb4.size
        clear hO4 hG4 hb4 hL4 HO3 HG3 HB3
        by_cases hlt : k < S.length
        · obtain ⟨bg, og, rfl, hcell⟩ := owns_cell HG4.out k _ (strVals_get S k hlt)
          have hx := HSS.out _ (List.getElem_mem hlt)
          have HT : Hid (S.take (k + 1) = S.take k ++ [S[k]]) := List.take_succ_eq_append_getElem hlt
          have hA := appendString_any w.heap.size _ L4 ⟨S[k].toArray⟩ wr HO4.out (by omega) (by show S[k].toArray.size ≤ _; simp; omega) hz4
          go_wp2_with fail
          refine hA.mono ?_
          rintro e5 w5 ⟨v5, rfl, hO5, hW5⟩
          have HO5 : Hid (OutB w5 w.heap.size v5 (L4 ++ pieceL S[k])) := hO5
          have HB5 : Hid (Below w.heap.size w w5) := hW5.low HB4.out HO4.out (Nat.le_refl _)
          have HG5 : Hid (w5.ownsRow (w.heap.size + 1) 9 1 (.slice (some ⟨bg, og, none⟩) S.length cg) S.length (strVals S)) := owns_stay HG4.out (fun j hj => hW5.1.block j (HG4.out.lt j hj).2 (fun e => owns_ne_wide HG4.out HO4.out (by decide) j hj e))
          clear hA hO5 hW5 hcell
          go_wp2
          go_roundw
          case rel =>
            refine ⟨_, _, _, _, _, _, _, _, _, _, ⟨k + 1, by omega, by go_num, ?_, HG5.out, HB5.out⟩, rfl⟩
            have e : (u8 S.length :: (S.take (k + 1)).flatMap pieceL) = L4 ++ pieceL S[k] := by
              rw [HT.out, HL4.out, List.flatMap_append, List.cons_append]
              simp only [List.flatMap_cons, List.flatMap_nil, List.append_nil]
            rw [e]
            exact HO5.out
          case measure => simp [intOf]; omega
        · have HE : Hid (L4 = goneB es) := by
            show _ = _
            unfold goneB
            rw [HL4.out, List.take_of_length_le (by omega), HS1.out]
          go_wp2
          go_ret
          refine ⟨_, rfl, ?_, HB4.out⟩
          rw [← HE.out]
          exact HO4.out
    · intro e rst' w2 hp1 hr1 hlt1 hg1 hs1 hen
      have hR1 := RangeL.lt hr1
      have hB1 := MapL.lt (RangeL.owns hr1)
      have HB1 : Hid (Below w.heap.size w w2) := below_next HB.out hg1 (Nat.le_refl _)
      have HR1 : Hid (SayR w2 B w.heap.size es rst') := hr1
      have HL1 : Hid (w2.rangeLeft B w.heap.size < wr.rangeLeft B w.heap.size) := hlt1
      have HP1 : Hid (rst.Perm (e :: rst')) := hp1
      have HO1 : Hid (w2.ownsRow (w.heap.size + 1) 9 1 (.slice ag (gonesL vis).length cg) (gonesL vis).length (strVals (gonesL vis))) := owns_stay HO.out (fun k hk => hg1.block k (HO.out.lt k hk).2 (by have := (HO.out.lt k hk).1; intro e; cases e; omega))
      have hls := gones_snoc vis e
      have hzz2 : w.heap.size + 1 ≤ w2.heap.size := by omega
      clear hp1 hr1 hlt1 hg1 hs1
      obtain ⟨nm, gn, tx, wt, tg⟩ := e
      cases gn with
      | false =>
        have HLS : Hid (gonesL (vis ++ [⟨nm, false, tx, wt, tg⟩]) = gonesL vis) := by show _ = _; rw [hls]; simp
        clear hls
        go_wp2
        go_roundw
        case rel =>
          exact ⟨vis ++ [⟨nm, false, tx, wt, tg⟩], rst', perm_step HP.out HP1.out, HR1.out.alloc _, by rw [HLS.out]; exact HO1.out.alloc _, HB1.out.alloc (by omega) _, by simp; omega⟩
        case measure =>
          rw [left_alloc hB1 hR1]
          exact HL1.out
      | true =>
        have HLS : Hid (gonesL (vis ++ [⟨nm, true, tx, wt, tg⟩]) = gonesL vis ++ [nm]) := by show _ = _; rw [hls]; simp
        clear hls
        go_wp2_with (first
            | (at_builtin; refine wpList_append_one _ rfl _ _ 31 rfl (w.heap.size + 1) 9 i9 (.string ⟨#[]⟩) 16 Tryz.underlying31 hi9 hy0 hy1 hy2 rfl _ _ _ rfl ((HO1.out.alloc _).alloc _) ⟨w2.heap.size + 1, 0, none⟩ _ rfl (cell_new_at (by simp)) rfl ?c1 ?c2 ?c3 ?_))
        case c1 => omega
        case c2 => unfold maxLen; omega
        case c3 => first | omega | (simp; omega)
        intro v3 w3 hown3 hg3 _
        have hB2 : Below w.heap.size w w3 := ((HB1.out.alloc (by omega) _).alloc (by simp; omega) _).grown hg3 (by simp; omega) (fun b hb => by have := (HO1.out.lt b hb).1; omega)
        have HB2 : Hid (Below w.heap.size w w3) := hB2
        have hzz : w2.heap.size ≤ w3.heap.size := by have := hg3.size; simp at this; omega
        have HR2 : Hid (SayR w3 B w.heap.size es rst') := RangeL.kept ((HR1.out.alloc _).alloc _) hg3 (fun e => by have := (HO1.out.lt B e.symm).1; omega) (fun e => by have := (HO1.out.lt _ e.symm).1; omega)
        have HO2 : Hid (w3.ownsRow (w.heap.size + 1) 9 1 v3 (gonesL (vis ++ [⟨nm, true, tx, wt, tg⟩])).length (strVals (gonesL (vis ++ [⟨nm, true, tx, wt, tg⟩])))) := by
          show w3.ownsRow _ _ _ _ _ _
          rw [HLS.out, strVals_snoc]
          rw [List.length_append]
          exact hown3
        have HL2 : Hid (w3.rangeLeft B w.heap.size < wr.rangeLeft B w.heap.size) := by
          show _ < _
          rw [RangeL.left_stay (hg3.block B (by simp; omega) (fun e => by have := (HO1.out.lt B e.symm).1; omega)) (hg3.block w.heap.size (by simp; omega) (fun e => by have := (HO1.out.lt _ e.symm).1; omega)), left_alloc (by simp; omega) (by simp; omega), left_alloc hB1 hR1]
          exact HL1.out
        clear hown3 hg3 hB2
        go_wp2
        go_roundw
        case rel =>
          exact ⟨vis ++ [⟨nm, true, tx, wt, tg⟩], rst', perm_step HP.out HP1.out, HR2.out, HO2.out, HB2.out, by omega⟩
        case measure => exact HL2.out

end Go.Proofs.YtocbogeoffeolaaGreatDoor

