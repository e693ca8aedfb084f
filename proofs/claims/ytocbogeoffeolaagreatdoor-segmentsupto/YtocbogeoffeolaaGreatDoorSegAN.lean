/-
  WALKS: the program's own: slices.Replace within the row of segments.
  WALKS: the program's own: Merge.
  WHAT IS ASKED OF THE PROGRAM'S CALLS OVER ENTRIES AND SEGMENTS, in one word; and that the program is so.
-/
import Derived.Test.YtocbogeoffeolaaGreatDoorSegAM
namespace Go.Proofs.YtocbogeoffeolaaGreatDoor
open Go.RowKit Go.Maps

/-- copy into a row of one's own. -/
theorem run_copy_here {P : Program} (w : World) (t ty e : TypeId) (ht : P.underlying t = some (.slice e)) (hi : (P.info? e).map (·.size) = some 1) (g off dl dc c : Nat) (cur : Array Value) (hg : w.heap[g]? = some (.cells cur e (0, 0))) (hcs : cur.size = c)
    (x : Value) (news : List Value) (hx : Rd w x news) (h1 : ∀ u ∈ news, u.oneCell' = true) (hd : news.length ≤ dl) (hroom : off + news.length ≤ c) :
    ∃ l' : List Value, l'.length = c ∧ (∀ j, j < off ∨ off + news.length ≤ j → l'[j]? = cur[j]?) ∧ (∀ j, j < news.length → l'[off + j]? = news[j]?) ∧ (Builtin.copy_ #[t, t] ty #[.slice (some ⟨g, off, none⟩) dl dc, x]).run P w = .ok (.int .i64 (news.length : Int)) (w.setRow g l'.toArray) := by
  obtain ⟨a, cap, rfl, hc, hm, hrd⟩ := hx
  have hcl : cur.toList.length = c := by simpa using hcs
  cases a with
  | none =>
    have hn : news = [] := by
      cases news with
      | nil => rfl
      | cons u us => obtain ⟨b, off, he, _⟩ := hrd 0 u rfl; simp at he
    subst hn
    refine ⟨cur.toList, hcl, fun j _ => by simp, fun j hj => by simp at hj, ?_⟩
    have := run_copy_none (P := P) w t t ty e (some ⟨g, off, none⟩) none dl dc 0 cap ht hi (by simp)
    simp only [List.length_nil]
    rw [this, Array.toArray_toList, setRow_self w g cur e (0, 0) hg]
    rfl
  | some ad =>
    have hnews : ∀ j u, news[j]? = some u → w.cell? (ad.add j) = some u := by
      intro j u hj
      obtain ⟨b, off, he, hcell⟩ := hrd j u hj
      simp only [Option.some.injEq] at he
      subst he
      rw [Addr.add_lit]; exact hcell
    have hr2 := run_copy_row (P := P) w t t ty e g off dl dc ad news.length cap cur e news ht hi hg (Nat.min_eq_left hd).symm hnews (by omega) h1
    refine ⟨_, ?_, ?_, ?_, hr2⟩
    · simp only [List.length_append, List.length_take, List.length_drop, hcl]
      omega
    · intro j hj
      rcases hj with hj | hj
      · rw [List.append_assoc, List.getElem?_append_left (by rw [List.length_take, hcl]; omega), List.getElem?_take, if_pos hj]
        simp
      · rw [List.getElem?_append_right (by simp only [List.length_append, List.length_take, hcl]; omega), List.getElem?_drop]
        simp only [List.length_append, List.length_take, hcl]
        rw [Nat.min_eq_left (by omega), show off + news.length + (j - (off + news.length)) = j by omega]
        simp
    · intro j hj
      rw [List.append_assoc, List.getElem?_append_right (by rw [List.length_take, hcl]; omega), List.length_take, hcl, Nat.min_eq_left (by omega), Nat.add_sub_cancel_left, List.getElem?_append_left hj]

theorem Tryz.sz9 : (Tryz.prog.info? 9).map (·.size) = some 1 := by kernel_rfl

set_option maxHeartbeats 4000000 in
set_option maxRecDepth 100000 in
theorem replace_mid (w : World) (g n q cap : Nat) (xs : List Wd) (v : Value) (ps : List Wd) (hown : w.ownsRow 0 9 1 (.slice (some ⟨g, 0, none⟩) xs.length cap) xs.length (strVals xs)) (hv : Rd w v (strVals ps)) (hps : ps.length ≤ 1) (hn : xs.length = n + 2 + q) (hq : 0 < q) (hx6 : xs.length ≤ 6) :
    Calls Tryz.prog 74 #[.slice (some ⟨g, 0, none⟩) xs.length cap, .int .i64 n, .int .i64 ((n : Int) + 2), v] w fun e w' => ∃ v', e = .returned v' ∧ w'.ownsRow 0 9 1 v' (xs.take n ++ (ps ++ xs.drop (n + 2))).length (strVals (xs.take n ++ (ps ++ xs.drop (n + 2)))) ∧ FrameF (· = g) w w' ∧ ∀ k, v'.ownBlock = some k → k = g ∨ w.heap.size ≤ k := by
  obtain ⟨av, cv, rfl, hcv, hmv, hrv⟩ := id hv
  rw [strVals_length] at hcv ⊢
  rcases hown.2 with ⟨he, _⟩ | ⟨g', cap', cur, he, _, hg, hlc, hcm, hcs, htk⟩
  · cases he
  simp only [Value.slice.injEq, Option.some.injEq, Addr.mk.injEq, and_true, true_and] at he
  obtain ⟨rfl, rfl⟩ := he
  have hcu : ∀ j, j < xs.length → cur[j]? = (strVals xs)[j]? := by
    intro j hj
    have h1 := congrArg (fun l : List Value => l[j]?) htk
    simp only [List.getElem?_take] at h1
    rw [if_pos (by omega), Array.getElem?_toList] at h1
    exact h1
  have HXL : Hid (xs.length = n + 2 + q) := hn
  have HV : Hid (Rd w (.slice av ps.length cv) (strVals ps)) := by have := hv; rw [strVals_length] at this; exact this
  have HG : Hid (w.heap[g]? = some (.cells cur 9 (0, 0))) := hg
  have hcsz : cur.size = cap := by omega
  have HC : Hid (cur.size = cap) := hcsz
  have HCU : Hid (∀ j, j < xs.length → cur[j]? = (strVals xs)[j]?) := hcu
  rw [hn] at hx6 hlc ⊢
  have hne : ((n : Int) == (n : Int) + 2) = false := beq_eq_false_iff_ne.2 (by omega)
  have hle : (((n : Int) + 2) == ((n + 2 + q : Nat) : Int)) = false := beq_eq_false_iff_ne.2 (by omega)
  have hle' : (((n : Int) + 2) == (n : Int) + 2 + (q : Int)) = false := beq_eq_false_iff_ne.2 (by omega)
  have hle2 : (n : Int) + 2 ≤ (cap : Int) := by omega
  have hcn : ¬ cap = n := by omega
  have hcn2 : ¬ cap = n + 2 := by omega
  unfold maxLen at hcm hmv
  clear hv hown hrv hg hcs htk hcu hcsz hn
  go_enter Tryz.func74, Tryz.ntmps74
  go_wp2_with fail
  go_quiet (fail)
  have HGd : Hid ((w.drewN nq).heap[g]? = some (.cells cur 9 (0, 0))) := HG.out
  have HVd : Hid (Rd (w.drewN nq) (.slice av ps.length cv) (strVals ps)) := HV.out
  have HFd : Hid (FrameF (· = g) w (w.drewN nq)) := ⟨rfl, rfl, rfl, Nat.le_refl _, fun _ _ _ => rfl⟩
  generalize w.drewN nq = wd at *
  obtain ⟨l1, hl1, ha1, hb1, hr1⟩ := run_copy_here (P := Tryz.prog) wd 31 3 9 Tryz.underlying31 Tryz.sz9 g n (n + ps.length + q - n) (cap - n) cap cur HGd.out HC.out (.slice av ps.length cv) (strVals ps) HVd.out strVals_one (by rw [strVals_length]; omega) (by rw [strVals_length]; omega)
  rw [strVals_length] at ha1 hb1 hr1
  obtain ⟨w1, hw1⟩ : ∃ w1, w1 = wd.setRow g l1.toArray := ⟨_, rfl⟩
  rw [← hw1] at hr1
  have HG1 : Hid (w1.heap[g]? = some (.cells l1.toArray 9 (0, 0))) := by show _ = _; rw [hw1]; exact setRow_heap wd g _ _ _ _ HGd.out
  have HF1 : Hid (FrameF (· = g) w w1) := by show FrameF _ _ _; rw [hw1]; exact HFd.out.then frame_row
  have HA1 : Hid (∀ j, j < n ∨ n + ps.length ≤ j → l1[j]? = cur[j]?) := ha1
  have HB1 : Hid (∀ j, j < ps.length → l1[n + j]? = (strVals ps)[j]?) := hb1
  have HL1 : Hid (l1.length = cap) := hl1
  have hcnp : ¬ cap = n + ps.length := by omega
  have hnp : (n : Int) + (ps.length : Int) ≤ (n : Int) + 2 := by omega
  clear hl1 ha1 hb1 hw1
  go_wp2_with fail
  clear hr1
  have hwp : IntKind.i64.wrap ((n : Int) + (ps.length : Int)) = (n : Int) + (ps.length : Int) := by simp only [IntKind.wrap_i64]; omega
  have hA : (0 : Int) ≤ (n : Int) + (ps.length : Int) := by omega
  have hB : (n : Int) + (ps.length : Int) ≤ (n : Int) + (ps.length : Int) + (q : Int) := by omega
  have hT : ((n : Int) + (ps.length : Int)).toNat = n + ps.length := by omega
  have hA2 : (0 : Int) ≤ (n : Int) + 2 := by omega
  have hB2 : (n : Int) + 2 ≤ (n : Int) + 2 + (q : Int) := by omega
  have hT2 : ((n : Int) + 2).toNat = n + 2 := by omega
  refine wp_region_held (S := fun w' => True) (by kernel_rfl) ?_
  refine wpAnyH_take (i := 0) (v := ?_) rfl (by kernel_rfl) (by kernel_rfl) (by kernel_rfl) (fun _ _ _ h => h) (Or.inl ⟨by rfl, ?_⟩) trivial ?_
  rotate_left
  · rintro w' _; go_simp; first | done | with_reducible rfl
  refine wpAnyH_take (i := 1) (v := ?_) rfl (by kernel_rfl) (by kernel_rfl) (by kernel_rfl) (fun _ _ _ h => h) (Or.inl ⟨by rfl, ?_⟩) trivial ?_
  rotate_left
  · rintro w' _; go_simp; first | done | with_reducible rfl
  refine wpAnyH_take (i := 2) (v := ?_) rfl (by kernel_rfl) (by kernel_rfl) (by kernel_rfl) (fun _ _ _ h => h) (Or.inl ⟨by rfl, ?_⟩) trivial ?_
  rotate_left
  · rintro w' _; go_simp; first | done | with_reducible rfl
  refine wpAnyH_take (i := 3) (v := ?_) rfl (by kernel_rfl) (by kernel_rfl) (by kernel_rfl) (fun _ _ _ h => h) (Or.inl ⟨by rfl, ?_⟩) trivial ?_
  rotate_left
  · rintro w' _; go_simp; first | done | with_reducible rfl
  refine wpAnyH_take (i := 4) (v := ?_) rfl (by kernel_rfl) (by kernel_rfl) (by kernel_rfl) (fun _ _ _ h => h) (Or.inl ⟨by rfl, ?_⟩) trivial ?_
  rotate_left
  · rintro w' _; go_simp; first | done | with_reducible rfl
  refine wpAnyH_take (i := 5) (v := ?_) rfl (by kernel_rfl) (by kernel_rfl) (by kernel_rfl) (fun _ _ _ h => h) (Or.inl ⟨by rfl, ?_⟩) trivial ?_
  rotate_left
  · rintro w' _; go_simp; first | done | with_reducible rfl
  refine wpAnyH_take (i := 6) (v := ?_) rfl (by kernel_rfl) (by kernel_rfl) (by kernel_rfl) (fun _ _ _ h => h) (Or.inl ⟨by rfl, ?_⟩) trivial ?_
  rotate_left
  · rintro w' _; go_simp; first | done | with_reducible rfl
  refine wpAnyH_take (i := 7) (v := ?_) rfl (by kernel_rfl) (by kernel_rfl) (by kernel_rfl) (fun _ _ _ h => h) (Or.inl ⟨by rfl, ?_⟩) trivial ?_
  rotate_left
  · rintro w' _; go_simp; first | done | with_reducible rfl
  refine wpAnyH_take (i := 8) (v := ?_) rfl (by kernel_rfl) (by kernel_rfl) (by kernel_rfl) (fun _ _ _ h => h) (Or.inl ⟨by rfl, ?_⟩) trivial ?_
  rotate_left
  · rintro w' _; go_simp; first | done | with_reducible rfl
  refine wpAnyH_all (rs := [9]) (by kernel_rfl) (by simp) ?_
  intro i hi
  simp only [List.mem_singleton] at hi
  subst hi
  refine wpOp_step (by rfl) fun K' hK' => ?_
  rw [if_pos (by rfl)]
  unfold Oper.wp
  go_simp
  have hdl : (strVals (xs.drop (n + 2))).length = q := by rw [strVals_length, List.length_drop, HXL.out]; omega
  have hRs : Rd w1.drew (.slice (some ⟨g, n + 2, none⟩) q (cap - (n + 2))) (strVals (xs.drop (n + 2))) := by
    refine ⟨some ⟨g, n + 2, none⟩, cap - (n + 2), by rw [hdl], by rw [hdl]; omega, by unfold maxLen; omega, fun j u hj => ⟨g, n + 2, rfl, ?_⟩⟩
    have hjq : j < q := by
      have := (List.getElem?_eq_some_iff.1 hj).1
      omega
    show w1.cell? _ = _
    rw [cell_of_heap HG1.out]
    show l1.toArray[n + 2 + j]? = _
    rw [List.getElem?_toArray, HA1.out _ (Or.inr (by omega)), HCU.out _ (by rw [HXL.out]; omega), ← hj]
    unfold strVals
    rw [List.getElem?_map, List.getElem?_map, List.getElem?_drop]
  obtain ⟨l2, hl2, ha2, hb2, hr2⟩ := run_copy_here (P := Tryz.prog) w1.drew 31 3 9 Tryz.underlying31 Tryz.sz9 g (n + ps.length) q (cap - (n + ps.length)) cap l1.toArray HG1.out (by simpa using HL1.out) _ _ hRs strVals_one (by omega) (by omega)
  rw [hr2]
  rw [hdl] at ha2 hb2
  obtain ⟨w2, hw2⟩ : ∃ w2, w2 = w1.drew.setRow g l2.toArray := ⟨_, rfl⟩
  rw [← hw2]
  have HG2 : Hid (w2.heap[g]? = some (.cells l2.toArray 9 (0, 0))) := by show _ = _; rw [hw2]; exact setRow_heap w1.drew g _ _ _ _ HG1.out
  have HF2 : Hid (FrameF (· = g) w w2) := by
    show FrameF _ _ _
    rw [hw2]
    have h1 : FrameF (· = g) w1 w1.drew := ⟨rfl, rfl, rfl, Nat.le_refl _, fun _ _ _ => rfl⟩
    exact (HF1.out.then h1).then frame_row
  have HA2 : Hid (∀ j, j < n + ps.length ∨ n + ps.length + q ≤ j → l2[j]? = l1[j]?) := fun j hj => by have := ha2 j hj; simpa using this
  have HB2 : Hid (∀ j, j < q → l2[n + ps.length + j]? = (strVals (xs.drop (n + 2)))[j]?) := hb2
  have HL2 : Hid (l2.length = cap) := hl2
  clear hl2 ha2 hb2 hr2 hw2 hRs hdl
  refine hK' _ _ ⟨trivial, wpAnyH_done (by kernel_rfl) ?_ _⟩
  clear hK' hwp hA hB hT hA2 hB2 hT2
  have hcnq : ¬ cap = n + ps.length + q := by omega
  obtain ⟨l3, hl3, ha3, hr3⟩ := run_clear_row (P := Tryz.prog) w2 31 0 9 g (n + ps.length + q) (n + 2 + q - (n + ps.length + q)) (cap - (n + ps.length + q)) (.string ⟨#[]⟩) l2.toArray 9 Tryz.underlying31 (Tryz.zeroValue9 w2) rfl rfl HG2.out (by omega) (by have := HL2.out; simp; omega)
  obtain ⟨w3, hw3⟩ : ∃ w3, w3 = w2.setRow g l3.toArray := ⟨_, rfl⟩
  rw [← hw3] at hr3
  have HG3 : Hid (w3.heap[g]? = some (.cells l3.toArray 9 (0, 0))) := by show _ = _; rw [hw3]; exact setRow_heap w2 g _ _ _ _ HG2.out
  have HF3 : Hid (FrameF (· = g) w w3) := by show FrameF _ _ _; rw [hw3]; exact HF2.out.then frame_row
  have HA3 : Hid (∀ j, j < n + ps.length + q → l3[j]? = l2[j]?) := fun j hj => by have := ha3 j hj; simpa using this
  have HL3 : Hid (l3.length = cap) := by show _ = _; rw [hl3]; simpa using HL2.out
  clear hl3 ha3 hw3
  go_wp2
  go_ret
  refine ⟨_, rfl, ?_, HF3.out, fun k hk => Or.inl (by simp [Value.ownBlock] at hk; exact hk.symm)⟩
  have hxl := HXL.out
  have hlen : (xs.take n ++ (ps ++ xs.drop (n + 2))).length = n + ps.length + q := by
    rw [List.length_append, List.length_append, List.length_take, List.length_drop]
    omega
  have h1l : (strVals (xs.take n)).length = n := by rw [strVals_length, List.length_take]; omega
  have h2l : (strVals ps).length = ps.length := strVals_length ps
  rw [hlen]
  refine owns_row_turn (by omega) (by unfold maxLen; omega) (by rw [strVals_length, hlen]) HG3.out (by simpa using HL3.out) (fun j hj => ?_)
  rw [show strVals (xs.take n ++ (ps ++ xs.drop (n + 2))) = strVals (xs.take n) ++ (strVals ps ++ strVals (xs.drop (n + 2))) by simp [strVals], List.getElem?_toArray, HA3.out j hj]
  by_cases hjn : j < n
  · rw [HA2.out j (Or.inl (by omega)), HA1.out j (Or.inl hjn), HCU.out j (by omega), List.getElem?_append_left (by omega)]
    unfold strVals
    rw [List.getElem?_map, List.getElem?_map, List.getElem?_take, if_pos hjn]
  · rw [List.getElem?_append_right (by omega), h1l]
    by_cases hjm : j < n + ps.length
    · rw [HA2.out j (Or.inl hjm), List.getElem?_append_left (by omega), ← HB1.out (j - n) (by omega), show n + (j - n) = j by omega]
    · rw [List.getElem?_append_right (by omega), h2l, ← HB2.out (j - n - ps.length) (by omega), show n + ps.length + (j - n - ps.length) = j by omega]

/-- slices.Replace over a row of segments: two out, one in at most. -/
theorem replace_any (w : World) (g n cap : Nat) (xs : List Wd) (v : Value) (ps : List Wd) (hown : w.ownsRow 0 9 1 (.slice (some ⟨g, 0, none⟩) xs.length cap) xs.length (strVals xs)) (hv : Rd w v (strVals ps)) (hps : ps.length ≤ 1) (hn : n + 2 ≤ xs.length) (hx6 : xs.length ≤ 6) :
    Calls Tryz.prog 74 #[.slice (some ⟨g, 0, none⟩) xs.length cap, .int .i64 n, .int .i64 ((n : Int) + 2), v] w fun e w' => ∃ v', e = .returned v' ∧ w'.ownsRow 0 9 1 v' (xs.take n ++ (ps ++ xs.drop (n + 2))).length (strVals (xs.take n ++ (ps ++ xs.drop (n + 2)))) ∧ FrameF (· = g) w w' ∧ ∀ k, v'.ownBlock = some k → k = g ∨ w.heap.size ≤ k := by
  by_cases h : n + 2 = xs.length
  · have e : xs.drop (n + 2) = [] := List.drop_eq_nil_of_le (by omega)
    rw [e, List.append_nil]
    exact replace_end w g n cap xs v ps hown hv hps h hx6
  · exact replace_mid w g n (xs.length - (n + 2)) cap xs v ps hown hv hps (by omega) (by omega) hx6

end Go.Proofs.YtocbogeoffeolaaGreatDoor

namespace Go.Proofs.YtocbogeoffeolaaGreatDoor
open Go.RowKit Go.Maps

def mergeTo (ss : List (List Ent)) (m : Nat) (l : List Ent) : List (List Ent) := ss.take m ++ ((if 0 < l.length then [l] else []) ++ ss.drop (m + 2))
theorem mergeTo_vals (ss : List (List Ent)) (m : Nat) (l : List Ent) : (mergeTo ss m l).map packC = (ss.map packC).take m ++ (packsL l ++ (ss.map packC).drop (m + 2)) := by
  unfold mergeTo packsL
  rw [List.map_append, List.map_append, List.map_take, List.map_drop]
  split <;> simp

set_option maxHeartbeats 8000000 in
set_option maxRecDepth 100000 in
theorem pMerge (w : World) (F : Nat → Prop) (b : Nat) (buf : List Ent) (ss : List (List Ent)) (n : Int) (hP : PE2 w F b buf ss) :
    Calls Tryz.prog 39 #[.pointer (some ⟨b, 0, none⟩), .int .i64 n] w fun e w' => e = .returned (.int .i64 (mergeL ss n).1) ∧
      ∃ F' : Nat → Prop, PE2 w' F' b buf (mergeL ss n).2 ∧ (∀ k, F' k → F k ∨ w.heap.size ≤ k) ∧ FrameF F w w' := by
  have HP : Hid (PE2 w F b buf ss) := hP
  obtain ⟨hF, Bb, vS, vM, vK, hE⟩ := hP
  obtain ⟨aS, cS, rfl, hcS⟩ := owns_slice hE.row
  have HF : Hid (∀ k, F k → k < w.heap.size) := hF
  have hc1 : w.cell? ⟨b, 1, none⟩ = some (.slice aS ss.length cS) := by rw [cell_of_heap hE.blk]; rfl
  have h6 := hE.inv.few
  have hbb := hF b hE.fb
  have HE : Hid (PEn w F b buf ss Bb (.slice aS ss.length cS) vM vK) := hE
  clear hF hE
  by_cases h0 : n < 0
  · have HU : Hid (mergeL ss n = (6, ss)) := by show mergeL _ _ = _; unfold mergeL; rw [if_pos (Or.inl h0)]
    go_enter Tryz.func39, Tryz.ntmps39
    go_wp2
    go_ret
    refine ⟨ret_int (by rw [HU.out]; rfl), F, ?_, fun k hk => Or.inl hk, FrameF.refl _ _⟩
    rw [HU.out]
    exact HP.out
  · have hwl : IntKind.i64.wrap ((ss.length : Int) - 1) = (ss.length : Int) - 1 := by simp only [IntKind.wrap_i64]; omega
    by_cases h1 : (ss.length : Int) - 1 ≤ n
    · have HU : Hid (mergeL ss n = (6, ss)) := by show mergeL _ _ = _; unfold mergeL; rw [if_pos (Or.inr h1)]
      go_enter Tryz.func39, Tryz.ntmps39
      go_wp2
      go_ret
      refine ⟨ret_int (by rw [HU.out]; rfl), F, ?_, fun k hk => Or.inl hk, FrameF.refl _ _⟩
      rw [HU.out]
      exact HP.out
    · obtain ⟨m, rfl⟩ : ∃ m : Nat, n = (m : Int) := ⟨n.toNat, by omega⟩
      have hm : m + 1 < ss.length := by omega
      have hm0 : m < ss.length := by omega
      obtain ⟨g, rfl⟩ : ∃ g, aS = some ⟨g, 0, none⟩ := by
        rcases HE.out.row.2 with ⟨he, _⟩ | ⟨g, cap, cur, he, _⟩
        · simp only [Value.slice.injEq] at he; omega
        · simp only [Value.slice.injEq] at he
          exact ⟨g, he.1⟩
      have HMG : Hid (merged ss m = if m = 0 then livingL (overL ss[m] ss[m + 1]) else overL ss[m] ss[m + 1]) := by
        show merged _ _ = _
        unfold merged
        rw [List.getD_eq_getElem?_getD, List.getD_eq_getElem?_getD, List.getElem?_eq_getElem hm0, List.getElem?_eq_getElem hm]
        rfl
      have HU : Hid (mergeL ss (m : Int) = if 100 < goneN (merged ss m) then (4, ss) else (0, ss.take m ++ ((if 0 < (merged ss m).length then [merged ss m] else []) ++ ss.drop (m + 2)))) := by
        show mergeL _ _ = _
        unfold mergeL
        rw [if_neg (by omega), Int.toNat_natCast, gone_count]
        rfl
      have hca : w.cell? ⟨g, m, none⟩ = some (.string ⟨(packC ss[m]).toArray⟩) := by
        obtain ⟨b', off, e, hc⟩ := owns_cell HE.out.row m (.string ⟨(packC ss[m]).toArray⟩) (by simp [strVals, hm0])
        cases e
        rw [Nat.zero_add] at hc
        exact hc
      have hcb : w.cell? ⟨g, m + 1, none⟩ = some (.string ⟨(packC ss[m + 1]).toArray⟩) := by
        obtain ⟨b', off, e, hc⟩ := owns_cell HE.out.row (m + 1) (.string ⟨(packC ss[m + 1]).toArray⟩) (by simp [strVals, hm])
        cases e
        rw [Nat.zero_add] at hc
        exact hc
      have HSH : Hid (∀ l ∈ [ss[m], ss[m + 1]], ∀ e ∈ l, e.name.length ≤ maxLen) := by
        intro l hl e he
        simp only [List.mem_cons, List.mem_nil_iff, or_false] at hl
        rcases hl with rfl | rfl
        · exact okseg_short (HE.out.inv.segs _ (List.getElem_mem hm0)) e he
        · exact okseg_short (HE.out.inv.segs _ (List.getElem_mem hm)) e he
      have HFO : Hid (foldO [ss[m], ss[m + 1]] = overL ss[m] ss[m + 1]) := by
        show _ = _
        unfold foldO
        simp only [List.foldl_cons, List.foldl_nil]
        rw [over_nil]
      have HOM : Hid (∀ e ∈ overL ss[m] ss[m + 1], e.name.length ≤ maxLen) := by
        rw [← HFO.out]
        exact foldO_short HSH.out
      have HOL : Hid ((overL ss[m] ss[m + 1]).length ≤ 1000) := by
        have h1 := okseg_len (HE.out.inv.segs _ (List.getElem_mem hm0))
        have h2 := okseg_len (HE.out.inv.segs _ (List.getElem_mem hm))
        have h3 := foldO_len [ss[m], ss[m + 1]] 2 (by simp)
        simp only [List.take] at h3
        rw [HFO.out] at h3
        have h4 : bulkS [ss[m], ss[m + 1]] ≤ 1000 := by simp [bulkS]; omega
        show _ ≤ _
        omega
      have hn0 : (0 : Int) ≤ (m : Int) := by omega
      have hn1 : (m : Int) < (ss.length : Int) := by omega
      have hn2 : (m : Int) + 1 < (ss.length : Int) := by omega
      have hw1 : IntKind.i64.wrap ((m : Int) + 1) = (m : Int) + 1 := by simp only [IntKind.wrap_i64]; omega
      have hw2 : IntKind.i64.wrap ((m : Int) + 2) = (m : Int) + 2 := by simp only [IntKind.wrap_i64]; omega
      have ht1 : ((m : Int) + 1).toNat = m + 1 := by omega
      have hn3 : (0 : Int) ≤ (m : Int) + 1 := by omega
      clear h0
      go_enter Tryz.func39, Tryz.ntmps39
      go_wp2_with fail
      have hS : (fun w' : World => w'.cell? ⟨b, 1, none⟩ = some (.slice (some ⟨g, 0, none⟩) ss.length cS) ∧ w'.cell? ⟨g, m, none⟩ = some (.string ⟨(packC ss[m]).toArray⟩) ∧ w'.cell? ⟨g, m + 1, none⟩ = some (.string ⟨(packC ss[m + 1]).toArray⟩)) w.drew := ⟨hc1, hca, hcb⟩
      refine wp_region_held (S := fun w' => w'.cell? ⟨b, 1, none⟩ = some (.slice (some ⟨g, 0, none⟩) ss.length cS) ∧ w'.cell? ⟨g, m, none⟩ = some (.string ⟨(packC ss[m]).toArray⟩) ∧ w'.cell? ⟨g, m + 1, none⟩ = some (.string ⟨(packC ss[m + 1]).toArray⟩)) (by kernel_rfl) ?_
      refine wpAnyH_take (i := 0) (v := ?_) rfl (by kernel_rfl) (by kernel_rfl) (by kernel_rfl) (fun _ _ _ h => h) (Or.inl ⟨by rfl, ?_⟩) hS ?_
      rotate_left
      · rintro w' ⟨s0, s1, s2⟩; go_simp; first | done | with_reducible rfl
      refine wpAnyH_take (i := 1) (v := ?_) rfl (by kernel_rfl) (by kernel_rfl) (by kernel_rfl) (fun _ _ _ h => h) (Or.inl ⟨by rfl, ?_⟩) hS ?_
      rotate_left
      · rintro w' ⟨s0, s1, s2⟩; go_simp; first | done | with_reducible rfl
      refine wpAnyH_take (i := 2) (v := ?_) rfl (by kernel_rfl) (by kernel_rfl) (by kernel_rfl) (fun _ _ _ h => h) (Or.inl ⟨by rfl, ?_⟩) hS ?_
      rotate_left
      · rintro w' ⟨s0, s1, s2⟩; go_simp; first | done | with_reducible rfl
      refine wpAnyH_take (i := 3) (v := ?_) rfl (by kernel_rfl) (by kernel_rfl) (by kernel_rfl) (fun _ _ _ h => h) (Or.inl ⟨by rfl, ?_⟩) hS ?_
      rotate_left
      · rintro w' ⟨s0, s1, s2⟩; go_simp; first | done | with_reducible rfl
      refine wpAnyH_take (i := 4) (v := ?_) rfl (by kernel_rfl) (by kernel_rfl) (by kernel_rfl) (fun _ _ _ h => h) (Or.inl ⟨by rfl, ?_⟩) hS ?_
      rotate_left
      · rintro w' ⟨s0, s1, s2⟩; go_simp; first | done | with_reducible rfl
      refine wpAnyH_take (i := 5) (v := ?_) rfl (by kernel_rfl) (by kernel_rfl) (by kernel_rfl) (fun _ _ _ h => h) (Or.inl ⟨by rfl, ?_⟩) hS ?_
      rotate_left
      · rintro w' ⟨s0, s1, s2⟩; go_simp; first | done | with_reducible rfl
      refine wpAnyH_take (i := 6) (v := ?_) rfl (by kernel_rfl) (by kernel_rfl) (by kernel_rfl) (fun _ _ _ h => h) (Or.inl ⟨by rfl, ?_⟩) hS ?_
      rotate_left
      · rintro w' ⟨s0, s1, s2⟩; go_simp; first | done | with_reducible rfl
      refine wpAnyH_take (i := 8) (v := ?_) rfl (by kernel_rfl) (by kernel_rfl) (by kernel_rfl) (fun _ _ _ h => h) (Or.inl ⟨by rfl, ?_⟩) hS ?_
      rotate_left
      · rintro w' ⟨s0, s1, s2⟩; go_simp; first | done | with_reducible rfl
      refine wpAnyH_take (i := 9) (v := ?_) rfl (by kernel_rfl) (by kernel_rfl) (by kernel_rfl) (fun _ _ _ h => h) (Or.inl ⟨by rfl, ?_⟩) hS ?_
      rotate_left
      · rintro w' ⟨s0, s1, s2⟩; go_simp; first | done | with_reducible rfl
      refine wpAnyH_take (i := 10) (v := ?_) rfl (by kernel_rfl) (by kernel_rfl) (by kernel_rfl) (fun _ _ _ h => h) (Or.inl ⟨by rfl, ?_⟩) hS ?_
      rotate_left
      · rintro w' ⟨s0, s1, s2⟩; go_simp; first | done | with_reducible rfl
      refine wpAnyH_take (i := 11) (v := ?_) rfl (by kernel_rfl) (by kernel_rfl) (by kernel_rfl) (fun _ _ _ h => h) (Or.inl ⟨by rfl, ?_⟩) hS ?_
      rotate_left
      · rintro w' ⟨s0, s1, s2⟩; go_simp; first | done | with_reducible rfl
      refine wpAnyH_take (i := 12) (v := ?_) rfl (by kernel_rfl) (by kernel_rfl) (by kernel_rfl) (fun _ _ _ h => h) (Or.inl ⟨by rfl, ?_⟩) hS ?_
      rotate_left
      · rintro w' ⟨s0, s1, s2⟩; go_simp; first | done | with_reducible rfl
      refine wpAnyH_take (i := 13) (v := ?_) rfl (by kernel_rfl) (by kernel_rfl) (by kernel_rfl) (fun _ _ _ h => h) (Or.inl ⟨by rfl, ?_⟩) hS ?_
      rotate_left
      · rintro w' ⟨s0, s1, s2⟩; go_simp; first | done | with_reducible rfl
      refine wpAnyH_take (i := 14) (v := ?_) rfl (by kernel_rfl) (by kernel_rfl) (by kernel_rfl) (fun _ _ _ h => h) (Or.inl ⟨by rfl, ?_⟩) hS ?_
      rotate_left
      · rintro w' ⟨s0, s1, s2⟩; go_simp; first | done | with_reducible rfl
      refine wpAnyH_take (i := 15) (v := ?_) rfl (by kernel_rfl) (by kernel_rfl) (by kernel_rfl) (fun _ _ _ h => h) (Or.inl ⟨by rfl, ?_⟩) hS ?_
      rotate_left
      · rintro w' ⟨s0, s1, s2⟩; go_simp; first | done | with_reducible rfl
      refine wpAnyH_all (rs := [7]) (by kernel_rfl) (by simp) ?_
      intro i hi
      simp only [List.mem_singleton] at hi
      subst hi
      refine wpOp_step (by rfl) fun K' hK' => ?_
      rw [if_pos (by rfl)]
      unfold Oper.wp
      go_simp
      refine (unpackOwn_any ss[m] w.drew (HE.out.inv.segs _ (List.getElem_mem _))).mono ?_
      rintro e w1 ⟨C, rfl, hC, hsC, hb1⟩
      have hB1 : Below w.heap.size w w1 := ⟨hb1.os, hb1.tape, hb1.output, hb1.size, hb1.block⟩
      have hz1 := hB1.size
      have hS1 : (fun w' : World => w'.cell? ⟨b, 1, none⟩ = some (.slice (some ⟨g, 0, none⟩) ss.length cS) ∧ w'.cell? ⟨g, m, none⟩ = some (.string ⟨(packC ss[m]).toArray⟩) ∧ w'.cell? ⟨g, m + 1, none⟩ = some (.string ⟨(packC ss[m + 1]).toArray⟩)) w1 := ⟨cell_later hb1 hS.1, cell_later hb1 hS.2.1, cell_later hb1 hS.2.2⟩
      refine hK' _ _ ⟨hS1, ?_⟩
      clear hK' hb1
      refine wpAnyH_all (rs := [16]) (by kernel_rfl) (by simp) ?_
      intro i hi
      simp only [List.mem_singleton] at hi
      subst hi
      refine wpOp_step (by rfl) fun K' hK' => ?_
      rw [if_pos (by rfl)]
      unfold Oper.wp
      go_simp
      refine (unpackOwn_any ss[m + 1] w1 (HE.out.inv.segs _ (List.getElem_mem _))).mono ?_
      rintro e w2 ⟨D, rfl, hD, hsD, hb2⟩
      have hz2 := hb2.size
      have hB2 : Below w.heap.size w w2 := hB1.trans (hb2.mono hz1)
      have hS2 : (fun w' : World => w'.cell? ⟨b, 1, none⟩ = some (.slice (some ⟨g, 0, none⟩) ss.length cS) ∧ w'.cell? ⟨g, m, none⟩ = some (.string ⟨(packC ss[m]).toArray⟩) ∧ w'.cell? ⟨g, m + 1, none⟩ = some (.string ⟨(packC ss[m + 1]).toArray⟩)) w2 := ⟨cell_later hb2 hS1.1, cell_later hb2 hS1.2.1, cell_later hb2 hS1.2.2⟩
      have hsC2 : SayM w2 C ss[m] := MapL.below hsC hb2
      refine hK' _ _ ⟨hS2, ?_⟩
      clear hK' hb2 hsC
      refine wpAnyH_all (rs := [17]) (by kernel_rfl) (by simp) ?_
      intro i hi
      simp only [List.mem_singleton] at hi
      subst hi
      refine wpOp_step (by rfl) fun K' hK' => ?_
      rw [if_pos (by rfl)]
      unfold Oper.wp
      go_simp
      have hLR := lays2 (t := 85) rfl hsC2 hsD
      obtain ⟨w3, hw3⟩ : ∃ w3, w3 = w2.alloc (.cells #[.map (some C), .map (some D)] 85) := ⟨_, rfl⟩
      rw [← hw3] at hLR ⊢
      have hb3 : Below w2.heap.size w2 w3 := by rw [hw3]; exact (Below.refl _ _).alloc (Nat.le_refl _) _
      have hz3 := hb3.size
      have hB3 : Below w.heap.size w w3 := hB2.trans (hb3.mono (by omega))
      have hS3 : (fun w' : World => w'.cell? ⟨b, 1, none⟩ = some (.slice (some ⟨g, 0, none⟩) ss.length cS) ∧ w'.cell? ⟨g, m, none⟩ = some (.string ⟨(packC ss[m]).toArray⟩) ∧ w'.cell? ⟨g, m + 1, none⟩ = some (.string ⟨(packC ss[m + 1]).toArray⟩)) w3 := ⟨cell_later hb3 hS2.1, cell_later hb3 hS2.2.1, cell_later hb3 hS2.2.2⟩
      refine hK' _ _ ⟨hS3, ?_⟩
      clear hK' hb3 hw3
      refine wpAnyH_all (rs := [18]) (by kernel_rfl) (by simp) ?_
      intro i hi
      simp only [List.mem_singleton] at hi
      subst hi
      refine wpOp_step (by rfl) fun K' hK' => ?_
      rw [if_pos (by rfl)]
      unfold Oper.wp
      go_simp
      refine (lmerge_any _ [C, D] [ss[m], ss[m + 1]] w3 hLR (by
          have h1 := okseg_len (HE.out.inv.segs _ (List.getElem_mem (show m < ss.length by omega)))
          have h2 := okseg_len (HE.out.inv.segs _ (List.getElem_mem (show m + 1 < ss.length by omega)))
          simp [bulkS]
          omega) HSH.out).mono ?_
      rintro e w4 ⟨M, rfl, hM, hsM, hb4⟩
      have hz4 := hb4.size
      have hB4 : Below w.heap.size w w4 := hB3.trans (hb4.mono (by omega))
      have hS4 : (fun w' : World => w'.cell? ⟨b, 1, none⟩ = some (.slice (some ⟨g, 0, none⟩) ss.length cS) ∧ w'.cell? ⟨g, m, none⟩ = some (.string ⟨(packC ss[m]).toArray⟩) ∧ w'.cell? ⟨g, m + 1, none⟩ = some (.string ⟨(packC ss[m + 1]).toArray⟩)) w4 := ⟨cell_later hb4 hS3.1, cell_later hb4 hS3.2.1, cell_later hb4 hS3.2.2⟩
      refine hK' _ _ ⟨hS4, ?_⟩
      clear hK' hb4
      refine wpAnyH_take (i := 19) (v := ?_) rfl (by kernel_rfl) (by kernel_rfl) (by kernel_rfl) (fun _ _ _ h => h) (Or.inl ⟨by rfl, ?_⟩) hS4 ?_
      rotate_left
      · rintro w' ⟨s0, s1, s2⟩; go_simp; first | done | with_reducible rfl
      refine wpAnyH_done (by kernel_rfl) ?_ _
      rw [HFO.out] at hsM
      have HSM : Hid (SayM w4 M (overL ss[m] ss[m + 1])) := hsM
      have HB4 : Hid (Below w.heap.size w w4) := hB4
      have hzz : w.heap.size ≤ w4.heap.size := hB4.size
      clear hS hS1 hS2 hS3 hS4 hLR hsM hsC2 hsD hB1 hB2 hB3 hB4 hC hD hz1 hz2 hz3 hz4
      by_cases hmz : m = 0
      · have HFX : Hid (merged ss m = livingL (overL ss[m] ss[m + 1])) := by show merged _ _ = _; rw [HMG.out, if_pos hmz]
        have hmzi : ((m : Int) == 0) = true := beq_iff_eq.2 (by omega)
        have hwg := without_any M _ w4 HSM.out (by have := HOL.out; omega) HOM.out
        clear hmz
        go_wp2_with fail
        refine hwg.mono ?_
        rintro e w5 ⟨N, rfl, hN, hs5, hb5⟩
        have HSX : Hid (SayM w5 N (livingL (overL ss[m] ss[m + 1]))) := hs5
        have HLX : Hid ((livingL (overL ss[m] ss[m + 1])).length ≤ 1000) := Nat.le_trans (living_le _) HOL.out
        have HBX : Hid (Below w.heap.size w w5) := HB4.out.trans (hb5.mono hzz)
        clear hwg hs5 hb5 hmzi
        have hgo := lgone_any N (livingL (overL ss[m] ss[m + 1])) w5 HSX.out (by have := HLX.out; omega)
        go_wp2_with fail
        refine hgo.mono ?_
        rintro e w6 ⟨rfl, hb6⟩
        have hz6 := hb6.size
        have HB6 : Hid (Below w.heap.size w w6) := HBX.out.trans (hb6.mono HBX.out.size)
        have HS6 : Hid (SayM w6 N (livingL (overL ss[m] ss[m + 1]))) := MapL.below HSX.out hb6
        have hgn : goneN (livingL (overL ss[m] ss[m + 1])) ≤ 1000 := Nat.le_trans (goneN_le _) HLX.out
        clear hgo hb6
        by_cases h100 : 100 < goneN (livingL (overL ss[m] ss[m + 1]))
        · have HUU : Hid (mergeL ss (m : Int) = (4, ss)) := by show mergeL _ _ = _; rw [HU.out, HFX.out, if_pos h100]
          have h100i : (100 : Int) < (goneN (livingL (overL ss[m] ss[m + 1])) : Int) := by omega
          clear h100
          go_wp2
          go_ret
          refine ⟨ret_int (by rw [HUU.out]; rfl), F, ?_, fun k hk => Or.inl hk, FrameF.of_below HB6.out⟩
          rw [HUU.out]
          exact HP.out.below HB6.out
        · have HUU : Hid (mergeL ss (m : Int) = (0, mergeTo ss m (livingL (overL ss[m] ss[m + 1])))) := by show mergeL _ _ = _; rw [HU.out, HFX.out, if_neg h100]; rfl
          have h100i : ¬ (100 : Int) < (goneN (livingL (overL ss[m] ss[m + 1])) : Int) := by omega
          have HINV : Hid (Inv buf (mergeTo ss m (livingL (overL ss[m] ss[m + 1])))) := by have := inv_merge HE.out.inv (m : Int); rw [HUU.out] at this; exact this
          have HBW : Hid (Below w.heap.size w w6.drew) := ⟨HB6.out.os, HB6.out.tape, HB6.out.output, HB6.out.size, HB6.out.block⟩
          have hl6 : w6.cell? ⟨b, 1, none⟩ = some (.slice (some ⟨g, 0, none⟩) ss.length cS) := cell_later HB6.out hc1
          have hpu := pue_any N (livingL (overL ss[m] ss[m + 1])) w6.drew HS6.out (fun hp => HINV.out.segs _ (by
            unfold mergeTo
            rw [if_pos hp]
            simp))
          clear h100
          go_wp2_with fail
          clear h100i hgn
          refine wp_region_held (S := fun w' => True) (by kernel_rfl) ?_
          refine wpAnyH_take (i := 0) (v := ?_) rfl (by kernel_rfl) (by kernel_rfl) (by kernel_rfl) (fun _ _ _ h => h) (Or.inl ⟨by rfl, ?_⟩) trivial ?_
          rotate_left
          · rintro w' _; go_simp; first | done | with_reducible rfl
          refine wpAnyH_take (i := 1) (v := ?_) rfl (by kernel_rfl) (by kernel_rfl) (by kernel_rfl) (fun _ _ _ h => h) (Or.inl ⟨by rfl, ?_⟩) trivial ?_
          rotate_left
          · rintro w' _; go_simp; first | done | with_reducible rfl
          refine wpAnyH_take (i := 2) (v := ?_) rfl (by kernel_rfl) (by kernel_rfl) (by kernel_rfl) (fun _ _ _ h => h) (Or.inl ⟨by rfl, ?_⟩) trivial ?_
          rotate_left
          · rintro w' _; go_simp; first | done | with_reducible rfl
          refine wpAnyH_take (i := 3) (v := ?_) rfl (by kernel_rfl) (by kernel_rfl) (by kernel_rfl) (fun _ _ _ h => h) (Or.inl ⟨by rfl, ?_⟩) trivial ?_
          rotate_left
          · rintro w' _; go_simp; first | done | with_reducible rfl
          refine wpAnyH_take (i := 5) (v := ?_) rfl (by kernel_rfl) (by kernel_rfl) (by kernel_rfl) (fun _ _ _ h => h) (Or.inl ⟨by rfl, ?_⟩) trivial ?_
          rotate_left
          · rintro w' _; go_simp; first | done | with_reducible rfl
          refine wpAnyH_take (i := 6) (v := ?_) rfl (by kernel_rfl) (by kernel_rfl) (by kernel_rfl) (fun _ _ _ h => h) (Or.inl ⟨by rfl, ?_⟩) trivial ?_
          rotate_left
          · rintro w' _; go_simp; first | done | with_reducible rfl
          refine wpAnyH_take (i := 7) (v := ?_) rfl (by kernel_rfl) (by kernel_rfl) (by kernel_rfl) (fun _ _ _ h => h) (Or.inl ⟨by rfl, ?_⟩) trivial ?_
          rotate_left
          · rintro w' _; go_simp; first | done | with_reducible rfl
          refine wpAnyH_take (i := 8) (v := ?_) rfl (by kernel_rfl) (by kernel_rfl) (by kernel_rfl) (fun _ _ _ h => h) (Or.inl ⟨by rfl, ?_⟩) trivial ?_
          rotate_left
          · rintro w' _; go_simp; first | done | with_reducible rfl
          refine wpAnyH_all (rs := [4, 9]) (by kernel_rfl) (by simp) ?_
          intro i hi
          simp only [List.mem_cons, List.mem_nil_iff, or_false] at hi
          rcases hi with rfl | rfl
          · refine wpOp_step (by rfl) fun K' hK' => ?_
            rw [if_pos (by rfl)]
            unfold Oper.wp
            go_simp
            refine hK' _ _ ⟨trivial, ?_⟩
            clear hK'
            refine wpAnyH_all (rs := [9]) (by kernel_rfl) (by simp) ?_
            intro i hi
            simp only [List.mem_singleton] at hi
            subst hi
            refine wpOp_step (by rfl) fun K' hK' => ?_
            rw [if_pos (by rfl)]
            unfold Oper.wp
            go_simp
            refine hpu.mono ?_
            rintro e x1 ⟨v1, rfl, hR1, hbx⟩
            have hBx : Below w.heap.size w x1 := HBW.out.trans (hbx.mono HBW.out.size)
            have hkx : x1.heap[b]? = some (.cells #[.map (some Bb), .slice (some ⟨g, 0, none⟩) ss.length cS, vM, vK] 90 (0, 0)) := by rw [hBx.block b hbb]; exact HE.out.blk
            have hlx : x1.cell? ⟨b, 1, none⟩ = some (.slice (some ⟨g, 0, none⟩) ss.length cS) := by rw [cell_of_heap hkx]; rfl
            refine hK' _ _ ⟨trivial, ?_⟩
            clear hK' hpu hbx
            have hOx : x1.ownsRow 0 9 1 (.slice (some ⟨g, 0, none⟩) (ss.map packC).length cS) (ss.map packC).length (strVals (ss.map packC)) := by
              rw [List.length_map]
              exact owns_stay HE.out.row (fun k hk => hBx.block k (HF.out k (HE.out.frow k hk)))
            have hrp := replace_any x1 g m cS (ss.map packC) v1 (packsL (livingL (overL ss[m] ss[m + 1]))) hOx hR1 (packs_len _) (by rw [List.length_map]; omega) (by rw [List.length_map]; omega)
            rw [List.length_map] at hrp
            refine wpAnyH_all (rs := [10]) (by kernel_rfl) (by simp) ?_
            intro i hi
            simp only [List.mem_singleton] at hi
            subst hi
            refine wpOp_step (by rfl) fun K' hK' => ?_
            rw [if_pos (by rfl)]
            unfold Oper.wp
            go_simp
            refine hrp.mono ?_
            rintro e x2 ⟨v2, rfl, hO2, hf2, hv2⟩
            obtain ⟨ln, hln⟩ : ∃ ln, ln = ((ss.map packC).take m ++ (packsL (livingL (overL ss[m] ss[m + 1])) ++ (ss.map packC).drop (m + 2))).length := ⟨_, rfl⟩
            rw [← hln] at hO2
            have HLn : Hid (ln = ((ss.map packC).take m ++ (packsL (livingL (overL ss[m] ss[m + 1])) ++ (ss.map packC).drop (m + 2))).length) := hln
            clear hln
            obtain ⟨a2, c2, rfl, hc2⟩ := owns_slice hO2
            have hk2 : x2.heap[b]? = some (.cells #[.map (some Bb), .slice (some ⟨g, 0, none⟩) ss.length cS, vM, vK] 90 (0, 0)) := by rw [hf2.block b (heap_lt hkx) (fun e => blk_ne hkx hOx (by decide) (by rw [e]; rfl))]; exact hkx
            refine hK' _ _ ⟨trivial, ?_⟩
            clear hK' hrp
            have hrow2 : x2.ownsRow 0 9 1 (.slice a2 ln c2) (mergeTo ss m (livingL (overL ss[m] ss[m + 1]))).length (strVals ((mergeTo ss m (livingL (overL ss[m] ss[m + 1]))).map packC)) := by
              rw [mergeTo_vals, ← List.length_map (f := packC), mergeTo_vals, ← HLn.out]
              exact hO2
            have hEnd := HE.out.segs HF.out hBx (hf2.mono (fun k hk => by subst hk; rfl)) hrow2 (fun k hk => by
              rcases hv2 k hk with h | h
              · subst h; exact Or.inl rfl
              · exact Or.inr h)
            refine wpAnyH_take (i := 11) (v := ?_) rfl (by kernel_rfl) (by kernel_rfl) (by kernel_rfl) (fun _ _ _ h => h) (Or.inl ⟨by rfl, ?_⟩) trivial ?_
            rotate_left
            · rintro w' _; go_simp; first | done | with_reducible rfl
            refine wpAnyH_take (i := 12) (v := ?_) rfl (by kernel_rfl) (by kernel_rfl) (by kernel_rfl) (fun _ _ _ h => h) (Or.inl ⟨by rfl, ?_⟩) trivial ?_
            rotate_left
            · rintro w' _; go_simp; first | done | with_reducible rfl
            have hcw : x2.cell? ⟨b, 1, none⟩ = some (.slice (some ⟨g, 0, none⟩) ss.length cS) := by rw [cell_of_heap hk2]; rfl
            have hfw : x2.frozen? ⟨b, 1, none⟩ = false := frozen_of_heap hk2 1
            clear hO2 hf2 hv2 hrow2 hk2 hOx hR1 hkx hBx hlx
            refine wpAnyH_all (rs := [13]) (by kernel_rfl) (by simp) ?_
            intro i hi
            simp only [List.mem_singleton] at hi
            subst hi
            refine wpOp_step (by rfl) fun K' hK' => ?_
            rw [if_pos (by rfl)]
            unfold Oper.wp
            go_simp
            refine hK' _ _ ⟨trivial, wpAnyH_done (by kernel_rfl) ?_ _⟩
            clear hK' hcw hfw
            obtain ⟨x3, hx3⟩ : ∃ x3, x3 = x2.setCell ⟨b, 1, none⟩ (.slice a2 ln c2) := ⟨_, rfl⟩
            have hz3 : x3.heap.size = x2.heap.size := by rw [hx3]; simp [World.setCell]
            rw [← hx3] at hEnd ⊢
            rw [← hz3] at hEnd
            have HFin : Hid (∃ F' : Nat → Prop, PE2 x3 F' b buf (mergeTo ss m (livingL (overL ss[m] ss[m + 1]))) ∧ (∀ k, F' k → F k ∨ w.heap.size ≤ k) ∧ FrameF F w x3) := psegs_end HE.out HF.out hEnd HINV.out
            clear hx3 hz3 hEnd
            go_wp2
            go_ret
            refine ⟨ret_int (by rw [HUU.out]; rfl), ?_⟩
            rw [HUU.out]
            exact HFin.out
          · refine wpOp_step (by rfl) fun K' hK' => ?_
            rw [if_pos (by rfl)]
            unfold Oper.wp
            go_simp
            refine hpu.mono ?_
            rintro e x1 ⟨v1, rfl, hR1, hbx⟩
            have hBx : Below w.heap.size w x1 := HBW.out.trans (hbx.mono HBW.out.size)
            have hkx : x1.heap[b]? = some (.cells #[.map (some Bb), .slice (some ⟨g, 0, none⟩) ss.length cS, vM, vK] 90 (0, 0)) := by rw [hBx.block b hbb]; exact HE.out.blk
            have hlx : x1.cell? ⟨b, 1, none⟩ = some (.slice (some ⟨g, 0, none⟩) ss.length cS) := by rw [cell_of_heap hkx]; rfl
            refine hK' _ _ ⟨trivial, ?_⟩
            clear hK' hpu hbx
            refine wpAnyH_all (rs := [4]) (by kernel_rfl) (by simp) ?_
            intro i hi
            simp only [List.mem_singleton] at hi
            subst hi
            refine wpOp_step (by rfl) fun K' hK' => ?_
            rw [if_pos (by rfl)]
            unfold Oper.wp
            go_simp
            refine hK' _ _ ⟨trivial, ?_⟩
            clear hK'
            have hOx : x1.ownsRow 0 9 1 (.slice (some ⟨g, 0, none⟩) (ss.map packC).length cS) (ss.map packC).length (strVals (ss.map packC)) := by
              rw [List.length_map]
              exact owns_stay HE.out.row (fun k hk => hBx.block k (HF.out k (HE.out.frow k hk)))
            have hrp := replace_any x1 g m cS (ss.map packC) v1 (packsL (livingL (overL ss[m] ss[m + 1]))) hOx hR1 (packs_len _) (by rw [List.length_map]; omega) (by rw [List.length_map]; omega)
            rw [List.length_map] at hrp
            refine wpAnyH_all (rs := [10]) (by kernel_rfl) (by simp) ?_
            intro i hi
            simp only [List.mem_singleton] at hi
            subst hi
            refine wpOp_step (by rfl) fun K' hK' => ?_
            rw [if_pos (by rfl)]
            unfold Oper.wp
            go_simp
            refine hrp.mono ?_
            rintro e x2 ⟨v2, rfl, hO2, hf2, hv2⟩
            obtain ⟨ln, hln⟩ : ∃ ln, ln = ((ss.map packC).take m ++ (packsL (livingL (overL ss[m] ss[m + 1])) ++ (ss.map packC).drop (m + 2))).length := ⟨_, rfl⟩
            rw [← hln] at hO2
            have HLn : Hid (ln = ((ss.map packC).take m ++ (packsL (livingL (overL ss[m] ss[m + 1])) ++ (ss.map packC).drop (m + 2))).length) := hln
            clear hln
            obtain ⟨a2, c2, rfl, hc2⟩ := owns_slice hO2
            have hk2 : x2.heap[b]? = some (.cells #[.map (some Bb), .slice (some ⟨g, 0, none⟩) ss.length cS, vM, vK] 90 (0, 0)) := by rw [hf2.block b (heap_lt hkx) (fun e => blk_ne hkx hOx (by decide) (by rw [e]; rfl))]; exact hkx
            refine hK' _ _ ⟨trivial, ?_⟩
            clear hK' hrp
            have hrow2 : x2.ownsRow 0 9 1 (.slice a2 ln c2) (mergeTo ss m (livingL (overL ss[m] ss[m + 1]))).length (strVals ((mergeTo ss m (livingL (overL ss[m] ss[m + 1]))).map packC)) := by
              rw [mergeTo_vals, ← List.length_map (f := packC), mergeTo_vals, ← HLn.out]
              exact hO2
            have hEnd := HE.out.segs HF.out hBx (hf2.mono (fun k hk => by subst hk; rfl)) hrow2 (fun k hk => by
              rcases hv2 k hk with h | h
              · subst h; exact Or.inl rfl
              · exact Or.inr h)
            refine wpAnyH_take (i := 11) (v := ?_) rfl (by kernel_rfl) (by kernel_rfl) (by kernel_rfl) (fun _ _ _ h => h) (Or.inl ⟨by rfl, ?_⟩) trivial ?_
            rotate_left
            · rintro w' _; go_simp; first | done | with_reducible rfl
            refine wpAnyH_take (i := 12) (v := ?_) rfl (by kernel_rfl) (by kernel_rfl) (by kernel_rfl) (fun _ _ _ h => h) (Or.inl ⟨by rfl, ?_⟩) trivial ?_
            rotate_left
            · rintro w' _; go_simp; first | done | with_reducible rfl
            have hcw : x2.cell? ⟨b, 1, none⟩ = some (.slice (some ⟨g, 0, none⟩) ss.length cS) := by rw [cell_of_heap hk2]; rfl
            have hfw : x2.frozen? ⟨b, 1, none⟩ = false := frozen_of_heap hk2 1
            clear hO2 hf2 hv2 hrow2 hk2 hOx hR1 hkx hBx hlx
            refine wpAnyH_all (rs := [13]) (by kernel_rfl) (by simp) ?_
            intro i hi
            simp only [List.mem_singleton] at hi
            subst hi
            refine wpOp_step (by rfl) fun K' hK' => ?_
            rw [if_pos (by rfl)]
            unfold Oper.wp
            go_simp
            refine hK' _ _ ⟨trivial, wpAnyH_done (by kernel_rfl) ?_ _⟩
            clear hK' hcw hfw
            obtain ⟨x3, hx3⟩ : ∃ x3, x3 = x2.setCell ⟨b, 1, none⟩ (.slice a2 ln c2) := ⟨_, rfl⟩
            have hz3 : x3.heap.size = x2.heap.size := by rw [hx3]; simp [World.setCell]
            rw [← hx3] at hEnd ⊢
            rw [← hz3] at hEnd
            have HFin : Hid (∃ F' : Nat → Prop, PE2 x3 F' b buf (mergeTo ss m (livingL (overL ss[m] ss[m + 1]))) ∧ (∀ k, F' k → F k ∨ w.heap.size ≤ k) ∧ FrameF F w x3) := psegs_end HE.out HF.out hEnd HINV.out
            clear hx3 hz3 hEnd
            go_wp2
            go_ret
            refine ⟨ret_int (by rw [HUU.out]; rfl), ?_⟩
            rw [HUU.out]
            exact HFin.out
      · have HFX : Hid (merged ss m = overL ss[m] ss[m + 1]) := by show merged _ _ = _; rw [HMG.out, if_neg hmz]
        have hmzi : ((m : Int) == 0) = false := beq_eq_false_iff_ne.2 (by omega)
        have HSX : Hid (SayM w4 M (overL ss[m] ss[m + 1])) := HSM.out
        have HLX : Hid ((overL ss[m] ss[m + 1]).length ≤ 1000) := HOL.out
        have HBX : Hid (Below w.heap.size w w4) := HB4.out
        clear hmz
        have hgo := lgone_any M (overL ss[m] ss[m + 1]) w4 HSX.out (by have := HLX.out; omega)
        go_wp2_with fail
        refine hgo.mono ?_
        rintro e w6 ⟨rfl, hb6⟩
        have hz6 := hb6.size
        have HB6 : Hid (Below w.heap.size w w6) := HBX.out.trans (hb6.mono HBX.out.size)
        have HS6 : Hid (SayM w6 M (overL ss[m] ss[m + 1])) := MapL.below HSX.out hb6
        have hgn : goneN (overL ss[m] ss[m + 1]) ≤ 1000 := Nat.le_trans (goneN_le _) HLX.out
        clear hgo hb6
        by_cases h100 : 100 < goneN (overL ss[m] ss[m + 1])
        · have HUU : Hid (mergeL ss (m : Int) = (4, ss)) := by show mergeL _ _ = _; rw [HU.out, HFX.out, if_pos h100]
          have h100i : (100 : Int) < (goneN (overL ss[m] ss[m + 1]) : Int) := by omega
          clear h100
          go_wp2
          go_ret
          refine ⟨ret_int (by rw [HUU.out]; rfl), F, ?_, fun k hk => Or.inl hk, FrameF.of_below HB6.out⟩
          rw [HUU.out]
          exact HP.out.below HB6.out
        · have HUU : Hid (mergeL ss (m : Int) = (0, mergeTo ss m (overL ss[m] ss[m + 1]))) := by show mergeL _ _ = _; rw [HU.out, HFX.out, if_neg h100]; rfl
          have h100i : ¬ (100 : Int) < (goneN (overL ss[m] ss[m + 1]) : Int) := by omega
          have HINV : Hid (Inv buf (mergeTo ss m (overL ss[m] ss[m + 1]))) := by have := inv_merge HE.out.inv (m : Int); rw [HUU.out] at this; exact this
          have HBW : Hid (Below w.heap.size w w6.drew) := ⟨HB6.out.os, HB6.out.tape, HB6.out.output, HB6.out.size, HB6.out.block⟩
          have hl6 : w6.cell? ⟨b, 1, none⟩ = some (.slice (some ⟨g, 0, none⟩) ss.length cS) := cell_later HB6.out hc1
          have hpu := pue_any M (overL ss[m] ss[m + 1]) w6.drew HS6.out (fun hp => HINV.out.segs _ (by
            unfold mergeTo
            rw [if_pos hp]
            simp))
          clear h100
          go_wp2_with fail
          clear h100i hgn
          refine wp_region_held (S := fun w' => True) (by kernel_rfl) ?_
          refine wpAnyH_take (i := 0) (v := ?_) rfl (by kernel_rfl) (by kernel_rfl) (by kernel_rfl) (fun _ _ _ h => h) (Or.inl ⟨by rfl, ?_⟩) trivial ?_
          rotate_left
          · rintro w' _; go_simp; first | done | with_reducible rfl
          refine wpAnyH_take (i := 1) (v := ?_) rfl (by kernel_rfl) (by kernel_rfl) (by kernel_rfl) (fun _ _ _ h => h) (Or.inl ⟨by rfl, ?_⟩) trivial ?_
          rotate_left
          · rintro w' _; go_simp; first | done | with_reducible rfl
          refine wpAnyH_take (i := 2) (v := ?_) rfl (by kernel_rfl) (by kernel_rfl) (by kernel_rfl) (fun _ _ _ h => h) (Or.inl ⟨by rfl, ?_⟩) trivial ?_
          rotate_left
          · rintro w' _; go_simp; first | done | with_reducible rfl
          refine wpAnyH_take (i := 3) (v := ?_) rfl (by kernel_rfl) (by kernel_rfl) (by kernel_rfl) (fun _ _ _ h => h) (Or.inl ⟨by rfl, ?_⟩) trivial ?_
          rotate_left
          · rintro w' _; go_simp; first | done | with_reducible rfl
          refine wpAnyH_take (i := 5) (v := ?_) rfl (by kernel_rfl) (by kernel_rfl) (by kernel_rfl) (fun _ _ _ h => h) (Or.inl ⟨by rfl, ?_⟩) trivial ?_
          rotate_left
          · rintro w' _; go_simp; first | done | with_reducible rfl
          refine wpAnyH_take (i := 6) (v := ?_) rfl (by kernel_rfl) (by kernel_rfl) (by kernel_rfl) (fun _ _ _ h => h) (Or.inl ⟨by rfl, ?_⟩) trivial ?_
          rotate_left
          · rintro w' _; go_simp; first | done | with_reducible rfl
          refine wpAnyH_take (i := 7) (v := ?_) rfl (by kernel_rfl) (by kernel_rfl) (by kernel_rfl) (fun _ _ _ h => h) (Or.inl ⟨by rfl, ?_⟩) trivial ?_
          rotate_left
          · rintro w' _; go_simp; first | done | with_reducible rfl
          refine wpAnyH_take (i := 8) (v := ?_) rfl (by kernel_rfl) (by kernel_rfl) (by kernel_rfl) (fun _ _ _ h => h) (Or.inl ⟨by rfl, ?_⟩) trivial ?_
          rotate_left
          · rintro w' _; go_simp; first | done | with_reducible rfl
          refine wpAnyH_all (rs := [4, 9]) (by kernel_rfl) (by simp) ?_
          intro i hi
          simp only [List.mem_cons, List.mem_nil_iff, or_false] at hi
          rcases hi with rfl | rfl
          · refine wpOp_step (by rfl) fun K' hK' => ?_
            rw [if_pos (by rfl)]
            unfold Oper.wp
            go_simp
            refine hK' _ _ ⟨trivial, ?_⟩
            clear hK'
            refine wpAnyH_all (rs := [9]) (by kernel_rfl) (by simp) ?_
            intro i hi
            simp only [List.mem_singleton] at hi
            subst hi
            refine wpOp_step (by rfl) fun K' hK' => ?_
            rw [if_pos (by rfl)]
            unfold Oper.wp
            go_simp
            refine hpu.mono ?_
            rintro e x1 ⟨v1, rfl, hR1, hbx⟩
            have hBx : Below w.heap.size w x1 := HBW.out.trans (hbx.mono HBW.out.size)
            have hkx : x1.heap[b]? = some (.cells #[.map (some Bb), .slice (some ⟨g, 0, none⟩) ss.length cS, vM, vK] 90 (0, 0)) := by rw [hBx.block b hbb]; exact HE.out.blk
            have hlx : x1.cell? ⟨b, 1, none⟩ = some (.slice (some ⟨g, 0, none⟩) ss.length cS) := by rw [cell_of_heap hkx]; rfl
            refine hK' _ _ ⟨trivial, ?_⟩
            clear hK' hpu hbx
            have hOx : x1.ownsRow 0 9 1 (.slice (some ⟨g, 0, none⟩) (ss.map packC).length cS) (ss.map packC).length (strVals (ss.map packC)) := by
              rw [List.length_map]
              exact owns_stay HE.out.row (fun k hk => hBx.block k (HF.out k (HE.out.frow k hk)))
            have hrp := replace_any x1 g m cS (ss.map packC) v1 (packsL (overL ss[m] ss[m + 1])) hOx hR1 (packs_len _) (by rw [List.length_map]; omega) (by rw [List.length_map]; omega)
            rw [List.length_map] at hrp
            refine wpAnyH_all (rs := [10]) (by kernel_rfl) (by simp) ?_
            intro i hi
            simp only [List.mem_singleton] at hi
            subst hi
            refine wpOp_step (by rfl) fun K' hK' => ?_
            rw [if_pos (by rfl)]
            unfold Oper.wp
            go_simp
            refine hrp.mono ?_
            rintro e x2 ⟨v2, rfl, hO2, hf2, hv2⟩
            obtain ⟨ln, hln⟩ : ∃ ln, ln = ((ss.map packC).take m ++ (packsL (overL ss[m] ss[m + 1]) ++ (ss.map packC).drop (m + 2))).length := ⟨_, rfl⟩
            rw [← hln] at hO2
            have HLn : Hid (ln = ((ss.map packC).take m ++ (packsL (overL ss[m] ss[m + 1]) ++ (ss.map packC).drop (m + 2))).length) := hln
            clear hln
            obtain ⟨a2, c2, rfl, hc2⟩ := owns_slice hO2
            have hk2 : x2.heap[b]? = some (.cells #[.map (some Bb), .slice (some ⟨g, 0, none⟩) ss.length cS, vM, vK] 90 (0, 0)) := by rw [hf2.block b (heap_lt hkx) (fun e => blk_ne hkx hOx (by decide) (by rw [e]; rfl))]; exact hkx
            refine hK' _ _ ⟨trivial, ?_⟩
            clear hK' hrp
            have hrow2 : x2.ownsRow 0 9 1 (.slice a2 ln c2) (mergeTo ss m (overL ss[m] ss[m + 1])).length (strVals ((mergeTo ss m (overL ss[m] ss[m + 1])).map packC)) := by
              rw [mergeTo_vals, ← List.length_map (f := packC), mergeTo_vals, ← HLn.out]
              exact hO2
            have hEnd := HE.out.segs HF.out hBx (hf2.mono (fun k hk => by subst hk; rfl)) hrow2 (fun k hk => by
              rcases hv2 k hk with h | h
              · subst h; exact Or.inl rfl
              · exact Or.inr h)
            refine wpAnyH_take (i := 11) (v := ?_) rfl (by kernel_rfl) (by kernel_rfl) (by kernel_rfl) (fun _ _ _ h => h) (Or.inl ⟨by rfl, ?_⟩) trivial ?_
            rotate_left
            · rintro w' _; go_simp; first | done | with_reducible rfl
            refine wpAnyH_take (i := 12) (v := ?_) rfl (by kernel_rfl) (by kernel_rfl) (by kernel_rfl) (fun _ _ _ h => h) (Or.inl ⟨by rfl, ?_⟩) trivial ?_
            rotate_left
            · rintro w' _; go_simp; first | done | with_reducible rfl
            have hcw : x2.cell? ⟨b, 1, none⟩ = some (.slice (some ⟨g, 0, none⟩) ss.length cS) := by rw [cell_of_heap hk2]; rfl
            have hfw : x2.frozen? ⟨b, 1, none⟩ = false := frozen_of_heap hk2 1
            clear hO2 hf2 hv2 hrow2 hk2 hOx hR1 hkx hBx hlx
            refine wpAnyH_all (rs := [13]) (by kernel_rfl) (by simp) ?_
            intro i hi
            simp only [List.mem_singleton] at hi
            subst hi
            refine wpOp_step (by rfl) fun K' hK' => ?_
            rw [if_pos (by rfl)]
            unfold Oper.wp
            go_simp
            refine hK' _ _ ⟨trivial, wpAnyH_done (by kernel_rfl) ?_ _⟩
            clear hK' hcw hfw
            obtain ⟨x3, hx3⟩ : ∃ x3, x3 = x2.setCell ⟨b, 1, none⟩ (.slice a2 ln c2) := ⟨_, rfl⟩
            have hz3 : x3.heap.size = x2.heap.size := by rw [hx3]; simp [World.setCell]
            rw [← hx3] at hEnd ⊢
            rw [← hz3] at hEnd
            have HFin : Hid (∃ F' : Nat → Prop, PE2 x3 F' b buf (mergeTo ss m (overL ss[m] ss[m + 1])) ∧ (∀ k, F' k → F k ∨ w.heap.size ≤ k) ∧ FrameF F w x3) := psegs_end HE.out HF.out hEnd HINV.out
            clear hx3 hz3 hEnd
            go_wp2
            go_ret
            refine ⟨ret_int (by rw [HUU.out]; rfl), ?_⟩
            rw [HUU.out]
            exact HFin.out
          · refine wpOp_step (by rfl) fun K' hK' => ?_
            rw [if_pos (by rfl)]
            unfold Oper.wp
            go_simp
            refine hpu.mono ?_
            rintro e x1 ⟨v1, rfl, hR1, hbx⟩
            have hBx : Below w.heap.size w x1 := HBW.out.trans (hbx.mono HBW.out.size)
            have hkx : x1.heap[b]? = some (.cells #[.map (some Bb), .slice (some ⟨g, 0, none⟩) ss.length cS, vM, vK] 90 (0, 0)) := by rw [hBx.block b hbb]; exact HE.out.blk
            have hlx : x1.cell? ⟨b, 1, none⟩ = some (.slice (some ⟨g, 0, none⟩) ss.length cS) := by rw [cell_of_heap hkx]; rfl
            refine hK' _ _ ⟨trivial, ?_⟩
            clear hK' hpu hbx
            refine wpAnyH_all (rs := [4]) (by kernel_rfl) (by simp) ?_
            intro i hi
            simp only [List.mem_singleton] at hi
            subst hi
            refine wpOp_step (by rfl) fun K' hK' => ?_
            rw [if_pos (by rfl)]
            unfold Oper.wp
            go_simp
            refine hK' _ _ ⟨trivial, ?_⟩
            clear hK'
            have hOx : x1.ownsRow 0 9 1 (.slice (some ⟨g, 0, none⟩) (ss.map packC).length cS) (ss.map packC).length (strVals (ss.map packC)) := by
              rw [List.length_map]
              exact owns_stay HE.out.row (fun k hk => hBx.block k (HF.out k (HE.out.frow k hk)))
            have hrp := replace_any x1 g m cS (ss.map packC) v1 (packsL (overL ss[m] ss[m + 1])) hOx hR1 (packs_len _) (by rw [List.length_map]; omega) (by rw [List.length_map]; omega)
            rw [List.length_map] at hrp
            refine wpAnyH_all (rs := [10]) (by kernel_rfl) (by simp) ?_
            intro i hi
            simp only [List.mem_singleton] at hi
            subst hi
            refine wpOp_step (by rfl) fun K' hK' => ?_
            rw [if_pos (by rfl)]
            unfold Oper.wp
            go_simp
            refine hrp.mono ?_
            rintro e x2 ⟨v2, rfl, hO2, hf2, hv2⟩
            obtain ⟨ln, hln⟩ : ∃ ln, ln = ((ss.map packC).take m ++ (packsL (overL ss[m] ss[m + 1]) ++ (ss.map packC).drop (m + 2))).length := ⟨_, rfl⟩
            rw [← hln] at hO2
            have HLn : Hid (ln = ((ss.map packC).take m ++ (packsL (overL ss[m] ss[m + 1]) ++ (ss.map packC).drop (m + 2))).length) := hln
            clear hln
            obtain ⟨a2, c2, rfl, hc2⟩ := owns_slice hO2
            have hk2 : x2.heap[b]? = some (.cells #[.map (some Bb), .slice (some ⟨g, 0, none⟩) ss.length cS, vM, vK] 90 (0, 0)) := by rw [hf2.block b (heap_lt hkx) (fun e => blk_ne hkx hOx (by decide) (by rw [e]; rfl))]; exact hkx
            refine hK' _ _ ⟨trivial, ?_⟩
            clear hK' hrp
            have hrow2 : x2.ownsRow 0 9 1 (.slice a2 ln c2) (mergeTo ss m (overL ss[m] ss[m + 1])).length (strVals ((mergeTo ss m (overL ss[m] ss[m + 1])).map packC)) := by
              rw [mergeTo_vals, ← List.length_map (f := packC), mergeTo_vals, ← HLn.out]
              exact hO2
            have hEnd := HE.out.segs HF.out hBx (hf2.mono (fun k hk => by subst hk; rfl)) hrow2 (fun k hk => by
              rcases hv2 k hk with h | h
              · subst h; exact Or.inl rfl
              · exact Or.inr h)
            refine wpAnyH_take (i := 11) (v := ?_) rfl (by kernel_rfl) (by kernel_rfl) (by kernel_rfl) (fun _ _ _ h => h) (Or.inl ⟨by rfl, ?_⟩) trivial ?_
            rotate_left
            · rintro w' _; go_simp; first | done | with_reducible rfl
            refine wpAnyH_take (i := 12) (v := ?_) rfl (by kernel_rfl) (by kernel_rfl) (by kernel_rfl) (fun _ _ _ h => h) (Or.inl ⟨by rfl, ?_⟩) trivial ?_
            rotate_left
            · rintro w' _; go_simp; first | done | with_reducible rfl
            have hcw : x2.cell? ⟨b, 1, none⟩ = some (.slice (some ⟨g, 0, none⟩) ss.length cS) := by rw [cell_of_heap hk2]; rfl
            have hfw : x2.frozen? ⟨b, 1, none⟩ = false := frozen_of_heap hk2 1
            clear hO2 hf2 hv2 hrow2 hk2 hOx hR1 hkx hBx hlx
            refine wpAnyH_all (rs := [13]) (by kernel_rfl) (by simp) ?_
            intro i hi
            simp only [List.mem_singleton] at hi
            subst hi
            refine wpOp_step (by rfl) fun K' hK' => ?_
            rw [if_pos (by rfl)]
            unfold Oper.wp
            go_simp
            refine hK' _ _ ⟨trivial, wpAnyH_done (by kernel_rfl) ?_ _⟩
            clear hK' hcw hfw
            obtain ⟨x3, hx3⟩ : ∃ x3, x3 = x2.setCell ⟨b, 1, none⟩ (.slice a2 ln c2) := ⟨_, rfl⟩
            have hz3 : x3.heap.size = x2.heap.size := by rw [hx3]; simp [World.setCell]
            rw [← hx3] at hEnd ⊢
            rw [← hz3] at hEnd
            have HFin : Hid (∃ F' : Nat → Prop, PE2 x3 F' b buf (mergeTo ss m (overL ss[m] ss[m + 1])) ∧ (∀ k, F' k → F k ∨ w.heap.size ≤ k) ∧ FrameF F w x3) := psegs_end HE.out HF.out hEnd HINV.out
            clear hx3 hz3 hEnd
            go_wp2
            go_ret
            refine ⟨ret_int (by rw [HUU.out]; rfl), ?_⟩
            rw [HUU.out]
            exact HFin.out

end Go.Proofs.YtocbogeoffeolaaGreatDoor

namespace Go.Proofs.YtocbogeoffeolaaGreatDoor
open Go.RowKit Go.Maps

/-- How a call that may change the engine ends. -/
def TurnsE (pe : World → (Nat → Prop) → Nat → List Ent → List (List Ent) → Prop) (w : World) (F : Nat → Prop) (b : Nat) (code : Nat) (buf : List Ent) (ss : List (List Ent)) (e : Ending) (w' : World) : Prop :=
  e = .returned (.int .i64 code) ∧ ∃ F' : Nat → Prop, pe w' F' b buf ss ∧ (∀ k, F' k → F k ∨ w.heap.size ≤ k) ∧ FrameF F w w'

structure ProgE (pe : World → (Nat → Prop) → Nat → List Ent → List (List Ent) → Prop) : Prop where
  lt : ∀ {w : World} {F : Nat → Prop} {b : Nat} {buf : List Ent} {ss : List (List Ent)}, pe w F b buf ss → ∀ k, F k → k < w.heap.size
  inv : ∀ {w : World} {F : Nat → Prop} {b : Nat} {buf : List Ent} {ss : List (List Ent)}, pe w F b buf ss → Inv buf ss
  stay : ∀ {w w' : World} {F : Nat → Prop} {b : Nat} {buf : List Ent} {ss : List (List Ent)}, pe w F b buf ss → w.heap.size ≤ w'.heap.size → (∀ k, F k → w'.heap[k]? = w.heap[k]?) → pe w' F b buf ss
  new : ∀ w : World, Calls Tryz.prog 31 #[] w fun e w' => ∃ (b : Nat) (F : Nat → Prop), e = .returned (.pointer (some ⟨b, 0, none⟩)) ∧ pe w' F b [] [] ∧ (∀ k, F k → w.heap.size ≤ k) ∧ Below w.heap.size w w'
  upsert : ∀ (w : World) (F : Nat → Prop) (b : Nat) (buf : List Ent) (ss : List (List Ent)) (name text : ByteArray) (weight tags : Int), pe w F b buf ss → name.size ≤ maxLen → text.size ≤ maxLen →
    Calls Tryz.prog 38 #[.pointer (some ⟨b, 0, none⟩), .string name, .string text, .int .i64 weight, .int .i64 tags] w (TurnsE pe w F b (upsL buf ss name.data.toList text.data.toList weight tags).1 (upsL buf ss name.data.toList text.data.toList weight tags).2 ss)
  delete : ∀ (w : World) (F : Nat → Prop) (b : Nat) (buf : List Ent) (ss : List (List Ent)) (name : ByteArray), pe w F b buf ss → name.size ≤ maxLen →
    Calls Tryz.prog 37 #[.pointer (some ⟨b, 0, none⟩), .string name] w (TurnsE pe w F b (delL buf ss name.data.toList).1 (delL buf ss name.data.toList).2 ss)
  flush : ∀ (w : World) (F : Nat → Prop) (b : Nat) (buf : List Ent) (ss : List (List Ent)), pe w F b buf ss →
    Calls Tryz.prog 29 #[.pointer (some ⟨b, 0, none⟩)] w (TurnsE pe w F b (flushL buf ss).1 (flushL buf ss).2.1 (flushL buf ss).2.2)
  merge : ∀ (w : World) (F : Nat → Prop) (b : Nat) (buf : List Ent) (ss : List (List Ent)) (n : Int), pe w F b buf ss →
    Calls Tryz.prog 39 #[.pointer (some ⟨b, 0, none⟩), .int .i64 n] w (TurnsE pe w F b (mergeL ss n).1 buf (mergeL ss n).2)
  load : ∀ (w : World) (F : Nat → Prop) (b : Nat) (buf : List Ent) (ss : List (List Ent)) (packed : ByteArray), pe w F b buf ss → packed.size ≤ maxLen →
    Calls Tryz.prog 25 #[.pointer (some ⟨b, 0, none⟩), .string packed] w (TurnsE pe w F b (loadL buf ss packed.data.toList).1 buf (loadL buf ss packed.data.toList).2)
  segments : ∀ (w : World) (F : Nat → Prop) (b : Nat) (buf : List Ent) (ss : List (List Ent)), pe w F b buf ss →
    Calls Tryz.prog 30 #[.pointer (some ⟨b, 0, none⟩)] w fun e w' => e = .returned (.int .i64 ss.length) ∧ w = w'
  dump : ∀ (w : World) (F : Nat → Prop) (b : Nat) (buf : List Ent) (ss : List (List Ent)) (n : Int), pe w F b buf ss →
    Calls Tryz.prog 26 #[.pointer (some ⟨b, 0, none⟩), .int .i64 n] w fun e w' => e = .returned (.tuple #[.string ⟨(dumpL ss n).1.toArray⟩, .int .i64 (dumpL ss n).2]) ∧ w = w'

/-- The program is as it is asked. -/
theorem progE : ProgE PE2 where
  lt h := h.1
  inv h := by
    obtain ⟨_, Bb, vS, vM, vK, hE⟩ := h
    exact hE.inv
  stay h hz hb := by
    obtain ⟨hF, Bb, vS, vM, vK, hE⟩ := h
    exact ⟨fun k hk => Nat.lt_of_lt_of_le (hF k hk) hz, Bb, vS, vM, vK, hE.stay hb⟩
  new := pNew
  upsert w F b buf ss name text weight tags hP hn ht := (pUpsert w F b buf ss name text weight tags hP hn ht).mono (fun _ _ h => ⟨h.1, F, h.2.1, fun _ hk => Or.inl hk, h.2.2⟩)
  delete w F b buf ss name hP hn := (pDelete w F b buf ss name hP hn).mono (fun _ _ h => ⟨h.1, F, h.2.1, fun _ hk => Or.inl hk, h.2.2⟩)
  flush w F b buf ss hP := (pFlush w F b buf ss hP).mono (fun _ _ h => h)
  merge w F b buf ss n hP := (pMerge w F b buf ss n hP).mono (fun _ _ h => h)
  load w F b buf ss packed hP hs := (pLoad w F b buf ss packed hP hs).mono (fun _ _ h => h)
  segments w F b buf ss hP := pSegments w F b buf ss hP
  dump w F b buf ss n hP := pDump w F b buf ss n hP

end Go.Proofs.YtocbogeoffeolaaGreatDoor

