/-
  WALKS: the program's own: Next.
-/
import Derived.Test.YtocbogeoffeolaaGreatDoorP10
import Derived.Test.YtocbogeoffeolaaGreatDoorP9b
import Derived.Laws.MakeOwn
namespace Go.Proofs.YtocbogeoffeolaaGreatDoor
open Go.RowKit Go.Maps Go.Sort

theorem Tryz.infoCand : (Tryz.prog.info? 150).map (fun i => (i.zero, i.size, i.bytes)) = some (some (.agg #[.string ⟨#[]⟩, .int .u64 0, .int .u64 0]), 3, 32) := by kernel_rfl

theorem hcmp_cand (ts : List (List Wd)) (l : List Wd) (hbk : bulkT ts ≤ 16777216) (blk off size : Nat) (w : World) : CmpLays Tryz.prog 97 #[] (candL (scP ts l)) 3 (cfW (scP ts l)) blk off size w := by
  intro m os dk _ x y
  have hx := scP_le ts l x
  have hy := scP_le ts l y
  exact ccmp_any x y _ _ _ _ _ (by omega) (by omega) (by omega) (by omega)

/-- The sort, at whatever length. -/
theorem sort_cand (ts : List (List Wd)) (l : List Wd) (most : Nat) (kn : List Wd) (hk : kn.Perm (knownL ts)) (hbk : bulkT ts ≤ 16777216) (au : Option Addr) (cu : Nat) (w wr : World)
    (hown : wr.ownsRow w.heap.size 150 3 (.slice au kn.length cu) kn.length (candVals (scP ts l) kn)) (hb : Below w.heap.size w wr) :
    Calls Tryz.prog 96 #[.slice au kn.length cu, .func (.func 97) #[] #[]] wr fun e w2 => e = .returned (.tuple #[]) ∧ Below w.heap.size w w2 ∧
      ∃ d : List Wd, suggestL ts l most = d.take (min most kn.length) ∧ d.length = kn.length ∧ ∀ i (h : i < d.length), ∃ g, au = some ⟨g, 0, none⟩ ∧ w2.cell? ⟨g, i * 3, none⟩ = some (.string ⟨d[i].toArray⟩) ∧ (∃ a, w2.cell? ⟨g, i * 3 + 1, none⟩ = some (.int .u64 a)) ∧ (∃ a, w2.cell? ⟨g, i * 3 + 2, none⟩ = some (.int .u64 a)) := by
  by_cases h0 : kn = []
  · subst h0
    have hcon := AnyF.slices_SortFunc_none Tryz.sortCand au cu (.func (.func 97) #[] #[]) wr
    change Calls Tryz.prog 96 _ _ _ at hcon
    refine hcon.mono ?_
    rintro e w2 ⟨rfl, rfl⟩
    refine ⟨rfl, hb, [], ?_, rfl, fun i h => by simp at h⟩
    have hkl : knownL ts = [] := List.Perm.eq_nil hk.symm
    unfold suggestL
    rw [hkl]
    simp [picks]
  · obtain ⟨g, rfl⟩ : ∃ g, au = some ⟨g, 0, none⟩ := by
      rcases hown.2 with ⟨he, hn⟩ | ⟨g, cap, cur, he, _⟩
      · exact absurd (List.length_eq_zero_iff.1 (by simpa using hn)) h0
      · simp only [Value.slice.injEq] at he
        exact ⟨g, he.1⟩
    have hbg := hown.lt g rfl
    have hcon := AnyQ.slices_SortFunc Tryz.sortCand 3 Tryz.isAgg150 Tryz.sizeOf150 (candL (scP ts l)) (fun _ => rfl) (candL_one (scP ts l)) (cfW (scP ts l)) (swo_cfW ts l) 97 #[] g 0 cu kn.toArray wr
      (enters_of Tryz.func97 (by kernel_rfl) rfl) (hcmp_cand ts l hbk g 0 _ wr) (holds_cand (scP ts l) hown rfl) hbg.2 (by have h2 := hk.length_eq; have h3 := knownL_len ts ts.length (Nat.le_refl _); rw [List.take_length] at h3; simp; omega)
    change Calls Tryz.prog 96 _ _ _ at hcon
    have e1 : kn.toArray.size = kn.length := by simp
    refine hcon.mono ?_
    rintro e w2 ⟨rfl, d', nq, os, hp, hs, rfl⟩
    have hsz : d'.size = kn.length := by rw [hp.1]; simp
    have hH : HoldsK (candL (scP ts l)) 3 (sortWorldK (candL (scP ts l)) 3 wr g 0 nq d' os) g 0 d' := by
      unfold sortWorldK
      refine holdsK_grow _ _ _ _ _ _ _ ?_ (holdsK_putRowK _ _ _ _ _ kn.toArray _ (holdsK_ahead _ _ _ _ _ _ _ (holds_cand (scP ts l) hown rfl)) hp.1)
      unfold putRowK putRow mapBlock
      simp [Sort.ahead]
      exact hbg.2
    refine ⟨rfl, sortW_below hb hbg.1, d'.toList, ?_, by simpa using hsz, fun i hi => ?_⟩
    · exact sorted_suggest ts l kn most d' hk hp hs
    · have hi' : i < d'.size := by simpa using hi
      have g0 := (HoldsK.cell hH hi' (c := 0) (by decide)).1
      have g1 := (HoldsK.cell hH hi' (c := 1) (by decide)).1
      have g2 := (HoldsK.cell hH hi' (c := 2) (by decide)).1
      have e2 : d'[i]! = d'.toList[i] := by rw [getElem!_pos d' i hi']; rfl
      rw [e2] at g0 g1 g2
      rw [Nat.zero_add] at g0 g1 g2
      exact ⟨g, rfl, g0, ⟨_, g1⟩, ⟨_, g2⟩⟩

theorem rdw_one {w : World} {x y z : Value} {t : TypeId} {g : Nat} (hg : g = w.heap.size) : RdW (w.alloc (.cells #[x, y, z] t)) 3 (.slice (some ⟨g, 0, none⟩) 1 1) 1 [x, y, z] := by
  subst hg
  refine ⟨some ⟨w.heap.size, 0, none⟩, 1, rfl, Nat.le_refl _, by unfold maxLen; omega, rfl, fun j u hj => ⟨w.heap.size, 0, rfl, ?_⟩⟩
  rw [World.cell?_alloc_at _ _ _ _ rfl]
  match j, hj with
  | 0, hj => simpa using hj
  | 1, hj => simpa using hj
  | 2, hj => simpa using hj
  | j + 3, hj => simp at hj

set_option maxHeartbeats 2000000 in
set_option maxRecDepth 100000 in
theorem next_any (F : Nat → Prop) (b : Nat) (vB vS : Value) (ts : List (List Wd)) (B n : Nat) (vK : Value) (kn l : List Wd) (vl : Value) (most : Nat) (w : World) (hW : WOk w) (hP : PW w F b vB vS ts B n vK kn)
    (hl : Rd w vl (strVals l)) (hlw : ∀ y ∈ l, y ≠ [] ∧ y.length ≤ 24) (hll : l.length ≤ 24) (h1 : 1 ≤ most) (h20 : most ≤ 20) (hbk : bulkT ts ≤ 16777216) :
    Calls Tryz.prog 68 #[.pointer (some ⟨b, 2, none⟩), vl, .int .i64 (most : Int)] w fun e w' => ∃ v, e = .returned v ∧ w'.ownsRow w.heap.size 9 1 v (suggestL ts l most).length (strVals (suggestL ts l most)) ∧ Below w.heap.size w w' := by
  obtain ⟨i0, hi, hz0, hz1, hz2⟩ := info_parts Tryz.infoCand
  obtain ⟨i9, hi9, hy0, hy1, hy2⟩ := info_parts Tryz.info9
  obtain ⟨al, cl, rfl, hcl, hml, _⟩ := id hl
  rw [strVals_length] at hl hcl ⊢
  unfold maxLen at hml
  obtain ⟨aK, cK, rfl, hcK⟩ := owns_slice hP.row
  have hfew := hP.few
  have HRK : Hid (∀ i u, (strVals kn)[i]? = some u → ∃ b off, aK = some ⟨b, off, none⟩ ∧ w.cell? ⟨b, off + i, none⟩ = some u) := by
    obtain ⟨aK', cK', heq, _, _, hrK⟩ := Rd.of_owns hP.row
    simp only [Value.slice.injEq] at heq
    obtain ⟨rfl, _, rfl⟩ := heq
    exact hrK
  have hc2 : w.cell? ⟨b, 2, none⟩ = some (.map (some B)) := by rw [cell_of_heap hP.blk]; rfl
  have hc3 : w.cell? ⟨b, 3, none⟩ = some (.slice aK kn.length cK) := by rw [cell_of_heap hP.blk]; rfl
  obtain ⟨k, hk⟩ : ∃ k, k = l.length - 2 := ⟨_, rfl⟩
  have hmx : max (0 : Int) ((l.length : Int) - 3 + 1) = (k : Int) := by omega
  have hkl : (k : Int) ≤ (l.length : Int) := by omega
  have hAH : Rd w (.slice (if cl = k then al else Option.map (fun x => x.add k) al) (l.length - k) (cl - k)) (strVals (last2 l)) := by
    unfold last2
    rw [← hk]
    exact hl.drop_str k (by omega)
  have hahl : (last2 l).length = l.length - k := by unfold last2; rw [← hk]; simp
  generalize hga : (if cl = k then al else Option.map (fun x => x.add k) al) = aa at hAH
  obtain ⟨W0, hmk, hown0, hg0⟩ := run_make_own (P := Tryz.prog) w w.heap.size 145 150 i0 _ 3 Tryz.underlying145 hi hz0 hz1 .i64 .i64 kn.length (by rw [hz2]; omega) (by unfold maxLen; omega) (Nat.le_refl _)
  have hb0 : Below w.heap.size w W0 := (Below.refl _ w).grown hg0 (Nat.le_refl _) (fun k hk => by cases hk)
  have hc3' := cell_later hb0 hc3
  have HP : Hid (PW w F b vB vS ts B n (.slice aK kn.length cK) kn) := hP
  clear hP hl hk
  go_enter Tryz.func68, Tryz.ntmps68
  go_wp2_with fail
  go_loopw [7, 31] (fun u i wr => ∃ j : Nat, j ≤ kn.length ∧ i = .int .i64 j ∧ wr.ownsRow w.heap.size 150 3 u j (candVals (scP ts l) (kn.take j)) ∧ Below w.heap.size w wr) (fun _ i _ => kn.length - (intOf i).toNat)
  case atStart => exact ⟨0, Nat.zero_le _, rfl, hown0, hb0⟩
  case round =>
    obtain ⟨j, hj, rfl, hown, hb⟩ := hrel
    have HS := hb.size
    obtain ⟨au, cu, rfl, hcu⟩ := owns_slice_wide hown
    by_cases hlt : j < kn.length
    · obtain ⟨bK, oK, rfl, hcell⟩ := HRK.out j _ (strVals_get kn j hlt)
      have hcell' := cell_later hb hcell
      have hmem : kn[j] ∈ knownL ts := HP.out.perm.mem_iff.1 (List.getElem_mem hlt)
      have hx : kn[j] ≠ [] ∧ kn[j].length ≤ 24 := by
        obtain ⟨t, ht, hxt⟩ := (knownL_mem ts _).1 hmem
        exact HP.out.ok t ht _ hxt
      have HE : Hid (kn.take (j + 1) = kn.take j ++ [kn[j]]) := List.take_succ_eq_append_getElem hlt
      have hsc := score_any' b 2 B n ts _ (last2 l) kn[j] wr (hW.below hb) (cell_later hb hc2) (HP.out.cnt.below hb) (hAH.below hb) (last2_len l) (fun y hy => hlw y (List.mem_of_mem_drop hy)) hx hbk
      rw [← scP_in ts l kn[j] hmem] at hsc
      clear hmem hcell
      generalize kn[j] = x at *
      obtain ⟨p1, hp1⟩ : ∃ p1 : Int, p1 = ((scP ts l x).1 : Int) := ⟨_, rfl⟩
      obtain ⟨p2, hp2⟩ : ∃ p2 : Int, p2 = ((scP ts l x).2 : Int) := ⟨_, rfl⟩
      rw [← hp1, ← hp2] at hsc
      have HC : Hid (candL (scP ts l) x = [.string ⟨x.toArray⟩, .int .u64 p1, .int .u64 p2]) := by
        show candL (scP ts l) x = _
        unfold candL
        rw [hp1, hp2]
      clear hp1 hp2
      go_wp2_with fail
      refine hsc.mono ?_
      rintro e w1 ⟨rfl, hb1⟩
      clear hsc
      have hzw1 := hb1.size
      have hbw1 : Below w.heap.size w w1 := hb.trans (hb1.mono HS)
      have hown1 := owns_stay_wide hown (fun k hk => hb1.block k (hown.lt k hk).2)
      go_wp2_with (at_builtin; go_must (refine wpList_append_w _ rfl _ _ 145 rfl w.heap.size 150 i0 _ 3 32 Tryz.underlying145 hi hz0 hz1 hz2 rfl (by decide) _ _ _ rfl (hown1.alloc _) _ 1 [.string ⟨x.toArray⟩, .int .u64 p1, .int .u64 p2] rfl ?cr ?c0 ?c1 ?c2 ?c3 ?_))
      case cr => exact rdw_one rfl
      case c0 => intro u hu; simp at hu; rcases hu with rfl | rfl | rfl <;> rfl
      case c1 => omega
      case c2 => unfold maxLen; omega
      case c3 => first | omega | (simp; omega)
      intro v' w2 hown2 hg2 _
      rw [← HC.out, ← candVals_snoc, ← HE.out] at hown2
      have hb2 : Below w.heap.size w w2 := (hbw1.alloc (by omega) _).grown hg2 (by simp; omega) (fun k hk => (hown1.lt k hk).1)
      go_wp2_with fail
      go_roundw
      case rel => exact ⟨j + 1, by omega, by go_num, hown2, hb2⟩
      case measure => simp [intOf]; omega
    · have ej : j = kn.length := by omega
      subst ej
      rw [List.take_of_length_le (Nat.le_refl _)] at hown
      have hsort := sort_cand ts l most kn HP.out.perm hbk au cu w wr hown hb
      clear hc2 hc3 hc3' hmk hown0 hg0 hb0 hown hb hAH
      obtain ⟨m, hm⟩ : ∃ m, m = min most kn.length := ⟨_, rfl⟩
      have hmn : min (most : Int) (kn.length : Int) = (m : Int) := by omega
      have hm1 : (m : Int) ≤ (cu : Int) := by omega
      have hm2 : m ≤ 20 := by omega
      rw [← hm] at hsort
      clear hm
      go_wp2_with fail
      refine hsort.mono ?_
      rintro e w2 ⟨rfl, hb2, d, hd1, hd2, hd3⟩
      clear hsort
      have HD1 : Hid (suggestL ts l most = d.take m) := hd1
      have HD3 : Hid (∀ i (h : i < d.length), ∃ g, au = some ⟨g, 0, none⟩ ∧ w2.cell? ⟨g, i * 3, none⟩ = some (.string ⟨d[i].toArray⟩) ∧ (∃ a, w2.cell? ⟨g, i * 3 + 1, none⟩ = some (.int .u64 a)) ∧ (∃ a, w2.cell? ⟨g, i * 3 + 2, none⟩ = some (.int .u64 a))) := hd3
      have hmd : m ≤ d.length := by omega
      clear hd1 hd3
      have hz2' := hb2.size
      go_wp2_with fail
      go_loopw [10, 54] (fun u i wx => ∃ q : Nat, q ≤ m ∧ i = .int .i64 q ∧ wx.ownsRow w2.heap.size 9 1 u q (strVals (d.take q)) ∧ Below w2.heap.size w2 wx) (fun _ i _ => m - (intOf i).toNat)
      case atStart => exact ⟨0, Nat.zero_le _, rfl, World.ownsRow_nil _ _ _ _, Below.refl _ _⟩
      case round =>
        obtain ⟨q, hq, rfl, hownq, hbq⟩ := hrel
        have HSq := hbq.size
        have hbwq : Below w.heap.size w wr := hb2.trans (hbq.mono hz2')
        obtain ⟨aq, cq, rfl, hcq⟩ := owns_slice hownq
        by_cases hltq : q < m
        · obtain ⟨g, rfl, hg0', ⟨y1, hg1'⟩, ⟨y2, hg2'⟩⟩ := HD3.out q (by omega)
          have hg0 := cell_later hbq hg0'
          have hg1 := cell_later hbq hg1'
          have hg2 := cell_later hbq hg2'
          have HE : Hid (d.take (q + 1) = d.take q ++ [d[q]'(by omega)]) := List.take_succ_eq_append_getElem (by omega)
          clear hg0' hg1' hg2'
          generalize d[q]'(by omega) = x at *
          go_wp2_with (at_builtin; go_must (refine wpList_append_one _ rfl _ _ 31 rfl w2.heap.size 9 i9 (.string ⟨#[]⟩) 16 Tryz.underlying31 hi9 hy0 hy1 hy2 rfl _ _ _ rfl ((hownq.alloc _).alloc _) ⟨wr.heap.size + 1, 0, none⟩ (.string ⟨x.toArray⟩) rfl ?c0 rfl ?c1 ?c2 ?c3 ?_))
          case c0 => exact cell_new' (by simp)
          case c1 => omega
          case c2 => unfold maxLen; omega
          case c3 => first | omega | (simp; omega)
          intro v' w4 hown4 hg4 _
          rw [← strVals_snoc, ← HE.out] at hown4
          have hb4 : Below w2.heap.size w2 w4 := ((hbq.alloc HSq _).alloc (by simp; omega) _).grown hg4 (by simp; omega) (fun k hk => (hownq.lt k hk).1)
          go_wp2_with fail
          go_roundw
          case rel => exact ⟨q + 1, by omega, by go_num, hown4, hb4⟩
          case measure => simp [intOf]; omega
        · have eq : q = m := by omega
          subst eq
          go_wp2
          go_ret
          refine ⟨_, rfl, ?_, hbwq⟩
          rw [HD1.out]
          have : (d.take q).length = q := by simp; omega
          rw [this]
          exact owns_mono hownq hz2'

end Go.Proofs.YtocbogeoffeolaaGreatDoor
