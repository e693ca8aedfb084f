/-
  TREES, PLAIN MATHEMATICS: how long a node is at the most, of raw entries.
  WALKS: the program's own: layers: Merge; the engine's: unpackOwn, unpackStrange.
-/
import Derived.Test.YtocbogeoffeolaaGreatDoorSegAE
import Derived.Test.YtocbogeoffeolaaGreatDoorSegAG
namespace Go.Proofs.YtocbogeoffeolaaGreatDoor
open Go.RowKit

/-- Raw entries, as a script may hold them. -/
def rawOk (e : Ent) : Prop := e.name.length ≤ 1048576 ∧ e.text.length ≤ 1048576 ∧ (-9223372036854775808 ≤ e.weight ∧ e.weight ≤ 9223372036854775807) ∧ -9223372036854775808 ≤ e.tags ∧ e.tags ≤ 9223372036854775807

theorem entB_len {e : Ent} (h : rawOk e) : (entB e).length ≤ 2097160 := by
  have h1 := h.1
  have h2 := h.2.1
  simp [entB, pieceL, threeL]; omega
theorem flat_len (m : List Ent) (h : ∀ e ∈ m, rawOk e) : (m.flatMap entB).length ≤ m.length * 2097160 := by
  induction m with
  | nil => simp
  | cons e m ih =>
    have h1 := entB_len (h e (by simp))
    have h2 := ih (fun x hx => h x (by simp [hx]))
    rw [List.flatMap_cons, List.length_append, List.length_cons]; omega
def hitB (p : Wd) (e : Ent) (c : UInt8) : Nat := if begB (keyE e) (p ++ [c]) = true then 1 else 0
theorem hit_none (p : Wd) (e : Ent) : ∀ (cs : List UInt8), (∀ c ∈ cs, begB (keyE e) (p ++ [c]) = false) → (cs.map (hitB p e)).sum = 0 := by
  intro cs
  induction cs with
  | nil => intro _; rfl
  | cons c cs ih =>
    intro h
    have h1 := h c (by simp)
    rw [List.map_cons, List.sum_cons, ih (fun d hd => h d (by simp [hd]))]
    simp [hitB, h1]
theorem hit_one (p : Wd) (e : Ent) : ∀ (cs : List UInt8), cs.Nodup → (cs.map (hitB p e)).sum ≤ 1 := by
  intro cs
  induction cs with
  | nil => intro _; simp
  | cons c cs ih =>
    intro h
    have h2 := List.nodup_cons.1 h
    rw [List.map_cons, List.sum_cons]
    cases hb : begB (keyE e) (p ++ [c]) with
    | false => have := ih h2.2; simp only [hitB, hb]; simpa using this
    | true =>
      rw [hit_none p e cs (fun d hd => ?_)]
      · simp [hitB, hb]
      · rw [Bool.eq_false_iff]
        intro hd2
        have := pre_byte ((begB_iff _ _).1 hb) ((begB_iff _ _).1 hd2)
        subst this
        exact h2.1 hd
theorem grp_sum (p : Wd) (cs : List UInt8) (e : Ent) (G : List Ent) : (cs.map fun c => (grp (e :: G) p c).length).sum = (cs.map (hitB p e)).sum + (cs.map fun c => (grp G p c).length).sum := by
  induction cs with
  | nil => rfl
  | cons c cs ih =>
    simp only [List.map_cons, List.sum_cons, ih]
    have : (grp (e :: G) p c).length = hitB p e c + (grp G p c).length := by
      unfold grp hitB
      rw [List.filter_cons]
      split
      · simp; omega
      · simp
    omega
theorem parts_len (p : Wd) (cs : List UInt8) (hc : cs.Nodup) : ∀ G : List Ent, (ownP G p).length + (cs.map fun c => (grp G p c).length).sum ≤ G.length := by
  intro G
  induction G with
  | nil =>
    have : ∀ cs : List UInt8, (cs.map fun c => (grp [] p c).length).sum = 0 := by
      intro cs
      induction cs with
      | nil => rfl
      | cons c cs ih => rw [List.map_cons, List.sum_cons, ih]; rfl
    rw [this]; simp [ownP]
  | cons e G ih =>
    rw [grp_sum]
    by_cases hk : keyE e = p
    · have h0 := hit_none p e cs (fun c _ => by
        rw [Bool.eq_false_iff]
        intro hb
        have := ((snoc_pre _ _ _).1 ((begB_iff _ _).1 hb)).2.1
        rw [hk] at this; omega)
      have h1 : (ownP (e :: G) p).length = (ownP G p).length + 1 := by
        unfold ownP; rw [List.filter_cons, if_pos (beq_iff_eq.2 hk)]; rfl
      rw [List.length_cons]; omega
    · have h0 := hit_one p e cs hc
      have h1 : (ownP (e :: G) p).length = (ownP G p).length := by
        unfold ownP; rw [List.filter_cons, if_neg (by simpa using hk)]
      rw [List.length_cons]; omega
theorem body_len : ∀ (f : Nat) (p : Wd) (G : List Ent), (∀ e ∈ G, rawOk e) → (bodyC f p G).length ≤ f * (G.length * 3145743) + 5 := by
  intro f
  induction f with
  | zero => intro p G _; simp [bodyC]
  | succ f ih =>
    intro p G hG
    have hown := flat_len (ownP G p) (fun e he => hG e (List.mem_filter.1 he).1)
    have hsum := parts_len p (heads G p) (rising_nodup (heads_rising G p)) G
    have hk : ∀ cs : List UInt8, (∀ c ∈ cs, c ∈ heads G p) → (cs.flatMap fun c => pieceL ((stem (grp G p c)).drop p.length) ++ bodyC f (stem (grp G p c)) (grp G p c)).length ≤ (cs.map fun c => (grp G p c).length).sum * (1048582 + f * 3145743) := by
      intro cs
      induction cs with
      | nil => intro _; simp
      | cons c cs ih2 =>
        intro hc
        have h1 := ih2 (fun d hd => hc d (by simp [hd]))
        have hne := heads_mem (hc c (by simp))
        rw [← grp_eq] at hne
        have hpos := List.length_pos_iff.2 hne
        obtain ⟨e0, he0⟩ := List.exists_mem_of_ne_nil _ hne
        have hst : (stem (grp G p c)).length ≤ 1048576 := by
          have a := ((stem_is hne).1 _ (List.mem_map.2 ⟨e0, he0, rfl⟩)).length_le
          have b := (hG e0 (grp_mem.1 he0).1).2.1
          unfold keyE at a
          rw [foldL_length] at a
          omega
        have h2 := ih (stem (grp G p c)) (grp G p c) (fun e he => hG e (grp_mem.1 he).1)
        have h3 : (pieceL ((stem (grp G p c)).drop p.length)).length ≤ 1048577 := by simp [pieceL]; omega
        rw [List.flatMap_cons, List.length_append, List.length_append, List.map_cons, List.sum_cons, Nat.add_mul]
        generalize (grp G p c).length = n at *
        have e1 : n * (1048582 + f * 3145743) = n * 1048582 + f * (n * 3145743) := by rw [Nat.mul_add, Nat.mul_left_comm]
        have h5 : 1048582 ≤ n * 1048582 := Nat.le_mul_of_pos_left _ hpos
        omega
    have hkk := hk (heads G p) (fun _ h => h)
    rw [bodyC]
    simp only [List.length_append, List.length_cons]
    have h3 : (threeL (maxW G)).length = 3 := rfl
    generalize ((heads G p).map fun c => (grp G p c).length).sum = m at *
    generalize ((heads G p).flatMap fun c => pieceL ((stem (grp G p c)).drop p.length) ++ bodyC f (stem (grp G p c)) (grp G p c)).length = z at *
    generalize ((ownP G p).flatMap entB).length = y at *
    generalize (ownP G p).length = x at *
    have e1 : m * (1048582 + f * 3145743) = m * 1048582 + m * (f * 3145743) := Nat.mul_add _ _ _
    have e2 : (f + 1) * (G.length * 3145743) = G.length * 3145743 + G.length * (f * 3145743) := by rw [Nat.add_mul, Nat.one_mul, Nat.mul_left_comm]; omega
    have e3 : m * (f * 3145743) ≤ G.length * (f * 3145743) := Nat.mul_le_mul_right _ (by omega)
    omega
theorem node_len (f : Nat) (l : List Ent) (p a : Wd) (hl : ∀ e ∈ l, rawOk e) : (nodeL f l p a).length ≤ f * (l.length * 3145743) + p.length + 6 := by
  rw [node_body]
  have h1 := body_len f p (atP l p) (fun e he => hl e (atP_mem.1 he).1)
  have h2 : (atP l p).length ≤ l.length := List.length_filter_le _ _
  have h3 : f * ((atP l p).length * 3145743) ≤ f * (l.length * 3145743) := Nat.mul_le_mul_left _ (Nat.mul_le_mul_right _ h2)
  rw [List.length_append]
  simp only [pieceL, List.length_cons, List.length_drop]
  omega

end Go.Proofs.YtocbogeoffeolaaGreatDoor

namespace Go.Proofs.YtocbogeoffeolaaGreatDoor
open Go.RowKit Go.Maps

def mapV (c : Nat) : Value := .map (some c)
/-- So many layers, in memory. -/
structure LaysR (w : World) (v : Value) (Cs : List Nat) (ls : List (List Ent)) : Prop where
  rd : Rd w v (Cs.map mapV)
  len : Cs.length = ls.length
  each : ∀ i (h : i < ls.length) (h' : i < Cs.length), SayM w Cs[i] ls[i]

theorem foldO_take_succ (ls : List (List Ent)) (k : Nat) (h : k < ls.length) : foldO (ls.take (k + 1)) = overL (foldO (ls.take k)) ls[k] := by
  rw [List.take_succ_eq_append_getElem h, foldO_snoc]
theorem bulk_one (ls : List (List Ent)) (k : Nat) (h : k < ls.length) : ls[k].length ≤ bulkS ls := by
  have h1 := bulkS_take ls k h
  have h2 := bulkS_le ls (k + 1)
  omega
theorem foldO_len (ls : List (List Ent)) (k : Nat) (hk : k ≤ ls.length) : (foldO (ls.take k)).length ≤ bulkS ls := by
  have h1 := thereTo_len ls k hk
  have h2 := bulkS_le ls k
  rw [thereTo_eq] at h1
  omega

set_option maxHeartbeats 2000000 in
set_option maxRecDepth 100000 in
theorem lmerge_any (v : Value) (Cs : List Nat) (ls : List (List Ent)) (w : World) (h : LaysR w v Cs ls) (hbk : bulkS ls ≤ 536870912) (hsh : ∀ l ∈ ls, ∀ e ∈ l, e.name.length ≤ maxLen) :
    Calls Tryz.prog 58 #[v] w fun en w' => ∃ B, en = .returned (.map (some B)) ∧ w.heap.size ≤ B ∧ SayM w' B (foldO ls) ∧ Below w.heap.size w w' := by
  have hmm := @run_makeMap Tryz.prog
  obtain ⟨a, cap, rfl, hcp, hcm, hrd⟩ := id h.rd
  have hll : (Cs.map mapV).length = ls.length := by rw [List.length_map, h.len]
  rw [hll] at hcp ⊢
  have hlb := bulkS_len ls
  unfold maxLen at hcm
  obtain ⟨w0, hw0⟩ : ∃ w0, w.alloc (.map #[] 0) = w0 := ⟨_, rfl⟩
  have hz0 : w0.heap.size = w.heap.size + 1 := by rw [← hw0]; simp
  have hb0 : Below w.heap.size w w0 := by rw [← hw0]; exact (Below.refl _ _).alloc (Nat.le_refl _) _
  have hM0 : SayM w0 w.heap.size [] := by rw [← hw0]; exact MapL.made w
  have HL : Hid (LaysR w (.slice a (Cs.map mapV).length cap) Cs ls) := h
  have HRD : Hid (∀ j u, (Cs.map mapV)[j]? = some u → ∃ b off, a = some ⟨b, off, none⟩ ∧ w.cell? ⟨b, off + j, none⟩ = some u) := hrd
  have HSH : Hid (∀ l ∈ ls, ∀ e ∈ l, e.name.length ≤ maxLen) := hsh
  clear h hrd hll hsh
  go_enter Tryz.func58, Tryz.ntmps58
  go_wp2
  go_loopw [9] (fun i wr => ∃ k : Nat, k ≤ ls.length ∧ i = .int .i64 k ∧ SayM wr w.heap.size (foldO (ls.take k)) ∧ Below w.heap.size w wr) (fun i _ => ls.length - (intOf i).toNat)
  case atStart => exact ⟨0, Nat.zero_le _, rfl, hM0, hb0⟩
  case round =>
    obtain ⟨k, hk, rfl, hm, hb⟩ := hrel
    have HM : Hid (SayM wr w.heap.size (foldO (ls.take k))) := hm
    have HB : Hid (Below w.heap.size w wr) := hb
    clear hm hb
    by_cases hlt : k < ls.length
    · have hkC : k < Cs.length := by rw [HL.out.len]; exact hlt
      obtain ⟨bb, off, rfl, hcell⟩ := HRD.out k (mapV Cs[k]) (by simp [hkC])
      have hc := cell_later HB.out hcell
      unfold mapV at hc
      have hsk := HL.out.each k hlt hkC
      have hCl := MapL.lt hsk
      have hcp' := copy_any w.heap.size Cs[k] (foldO (ls.take k)) ls[k] wr HM.out (MapL.below hsk HB.out) (by omega) (by have := bulk_one ls k hlt; omega) (by have := foldO_len ls k hk; omega) (HSH.out _ (List.getElem_mem hlt))
      rw [← foldO_take_succ ls k hlt] at hcp'
      clear hcell hsk
      go_wp2_with fail
      refine hcp'.mono ?_
      rintro e w1 ⟨rfl, q1, q2⟩
      have HM1 : Hid (SayM w1 w.heap.size (foldO (ls.take (k + 1)))) := q1
      have HB1 : Hid (Below w.heap.size w w1) := by
        show Below _ _ _
        refine ⟨q2.os.trans HB.out.os, q2.tape.trans HB.out.tape, q2.output.trans HB.out.output, Nat.le_trans HB.out.size q2.size, fun i hi => ?_⟩
        rw [q2.block i (Nat.lt_of_lt_of_le hi HB.out.size) (by show i ≠ _; omega), HB.out.block i hi]
      clear hcp' q1 q2
      go_wp2
      go_roundw
      case rel => exact ⟨k + 1, by omega, by go_num, HM1.out, HB1.out⟩
      case measure => simp [intOf]; omega
    · have HE : Hid (ls.take k = ls) := List.take_of_length_le (by omega)
      go_wp2
      go_ret
      refine ⟨_, rfl, Nat.le_refl _, ?_, HB.out⟩
      have := HM.out
      rw [HE.out] at this
      exact this

theorem okG_raw {e : Ent} (h : okG e) : rawOk e := by
  rcases h with h | h
  · have h1 := name_len h.2.1
    have h2 := query_len h.2.2.1
    have h3 := h.2.2.2.2
    exact ⟨by omega, by omega, ⟨by omega, by omega⟩, by omega, by omega⟩
  · have h1 := name_len h.2
    have e1 : e.text = [] := by rw [h.1]
    have e2 : e.weight = 0 := by rw [h.1]
    have e3 : e.tags = 0 := by rw [h.1]
    exact ⟨by omega, by rw [e1]; simp, ⟨by omega, by omega⟩, by omega, by omega⟩
theorem okG_name {e : Ent} (h : okG e) : nameB e.name = true := by
  rcases h with h | h
  · exact h.2.1
  · exact h.2
theorem pieces_len (l : List Ent) (h : ∀ e ∈ l, e.name.length ≤ 8) : (l.flatMap fun e => pieceL e.name).length ≤ l.length * 9 := by
  induction l with
  | nil => simp
  | cons e l ih =>
    rw [List.flatMap_cons, List.length_append, List.length_cons]
    have h1 := ih (fun x hx => h x (List.mem_cons_of_mem _ hx))
    have h2 := h e (List.mem_cons_self ..)
    simp only [pieceL, List.length_cons] at h1 ⊢
    omega
theorem packC_len {l : List Ent} (h : OkSeg l) : (packC l).length ≤ 3000000000 := by
  unfold packC
  have hg : ((sortN l).filter fun e => e.gone).length ≤ 100 := by
    rw [((sortN_perm l).filter _).length_eq]
    exact h.gone
  have ht : ((sortN l).filter fun e => !e.gone).length ≤ 30 := by
    rw [((sortN_perm l).filter _).length_eq]
    exact h.there
  have h1 := pieces_len ((sortN l).filter fun e => e.gone) (fun e he => (name_len (okG_name (h.each e (sortN_mem.1 (List.mem_filter.1 he).1)))).2)
  have h2 := body_len 26 [] ((sortN l).filter fun e => !e.gone) (fun e he => okG_raw (h.each e (sortN_mem.1 (List.mem_filter.1 he).1)))
  have h3 : (pieceL []).length = 1 := rfl
  simp only [List.length_cons, List.length_append, h3]
  omega

theorem okseg_short {l : List Ent} (h : OkSeg l) : ∀ e ∈ l, e.name.length ≤ maxLen := fun e he => by
  have := (name_len (okG_name (h.each e he))).2
  unfold maxLen
  omega
theorem okseg_len {l : List Ent} (h : OkSeg l) : l.length ≤ 130 := by
  have h1 := gone_count l
  have h2 := h.gone
  have h3 : (livingL l).length ≤ 30 := h.there
  have := living_le l
  omega

set_option maxHeartbeats 1000000 in
set_option maxRecDepth 100000 in
theorem unpackOwn_any (s : List Ent) (w : World) (h : OkSeg s) :
    Calls Tryz.prog 73 #[.string ⟨(packC s).toArray⟩] w fun en w' => ∃ B, en = .returned (.map (some B)) ∧ w.heap.size ≤ B ∧ SayM w' B s ∧ Below w.heap.size w w' := by
  have hl := packC_len h
  have hu := unpack_any ⟨(packC s).toArray⟩ w (by show (packC s).toArray.size ≤ _; simp; omega)
  obtain ⟨gs, es, hr, hp⟩ := rdSeg_pack h
  rw [show (⟨(packC s).toArray⟩ : ByteArray).data.toList = packC s from rfl, hr] at hu
  have HP : Hid ((gs ++ es).Perm s) := hp
  clear hp hr hl h
  go_enter Tryz.func73, Tryz.ntmps73
  go_wp2_with fail
  refine hu.mono ?_
  rintro e w1 ⟨hb, B, rfl, hB, hs⟩
  have HS : Hid (SayM w1 B s) := SayM.perm hs HP.out
  have HB : Hid (Below w.heap.size w w1) := hb
  clear hu hs hb
  go_wp2
  go_ret
  exact ⟨B, rfl, hB, HS.out, HB.out⟩

end Go.Proofs.YtocbogeoffeolaaGreatDoor

