/-
  TREES, PLAIN MATHEMATICS: a node written from leaves in the order of their texts, then names.
  HOW BUFFER AND SEGMENTS STAND, PLAIN MATHEMATICS: what is kept by every call; that Flush and Merge change nothing of what is there; Load.
  WALKS: the program's own: layers: Put, TakeAway; ranging over one: Gone, WithoutGone, maps.Copy.
  WALKS: the program's own: layers: WithoutGone, maps.Copy, Merge.
-/
import Derived.Test.YtocbogeoffeolaaGreatDoorSegAD
import Derived.Test.YtocbogeoffeolaaGreatDoorSegAE
import Derived.Test.YtocbogeoffeolaaGreatDoorSegAF
namespace Go.Proofs.YtocbogeoffeolaaGreatDoor
open Go.RowKit

def ltK (a b : Ent) : Prop := Op.bytesLess (keyE a) (keyE b) = true ∨ (keyE a = keyE b ∧ Op.bytesLess a.name b.name = true)
def RisingK (l : List Ent) : Prop := l.Pairwise ltK
def byteAt (d : Nat) (e : Ent) : UInt8 := (keyE e).getD d 0
def hereN (L : List Ent) (d : Nat) : Nat := (L.takeWhile fun e => (keyE e).length == d).length
/-- Neighbours with the same byte. -/
def runs (d : Nat) : List Ent → List (List Ent)
  | [] => []
  | e :: l => match runs d l with
    | [] => [[e]]
    | [] :: gs => [e] :: gs
    | (x :: g) :: gs => if byteAt d e = byteAt d x then (e :: x :: g) :: gs else [e] :: (x :: g) :: gs
def comL (C : List Ent) : Wd := match C with
  | [] => []
  | e :: C => lcp2 (keyE e) (keyE ((e :: C).getLast (by simp)))
def wrBody : Nat → Nat → List Ent → Wd
  | 0, _, _ => []
  | f + 1, d, L => threeL (maxW L) ++ (u8 (hereN L d) :: ((L.take (hereN L d)).flatMap entB ++ (u8 (runs d (L.drop (hereN L d))).length :: (runs d (L.drop (hereN L d))).flatMap fun C => pieceL ((comL C).drop d) ++ wrBody f (comL C).length C)))

theorem key_le {a b : Ent} (h : ltK a b) : Op.bytesLess (keyE b) (keyE a) = false := by
  rcases h with h | h
  · exact bl_asym h
  · rw [h.1]; exact bl_irrefl _
/-- What lies between two begins as they do. -/
theorem between : ∀ (r a b c : Wd), r <+: a → r <+: c → Op.bytesLess b a = false → Op.bytesLess c b = false → r <+: b
  | [], _, _, _, _, _, _, _ => List.nil_prefix
  | x :: r, [], _, _, h, _, _, _ => by simp at h
  | x :: r, _ :: _, _, [], _, h, _, _ => by simp at h
  | x :: r, y :: a, [], z :: c, _, _, h3, _ => by simp [Op.bytesLess] at h3
  | x :: r, y :: a, w :: b, z :: c, h1, h2, h3, h4 => by
    have g1 := List.cons_prefix_cons.1 h1
    have g2 := List.cons_prefix_cons.1 h2
    simp only [Op.bytesLess, Bool.or_eq_false_iff, Bool.and_eq_false_imp, decide_eq_false_iff_not, beq_iff_eq] at h3 h4
    obtain ⟨g1a, g1b⟩ := g1
    obtain ⟨g2a, g2b⟩ := g2
    subst g1a
    subst g2a
    have e : w = x := by
      have a1 := h3.1
      have a2 := h4.1
      apply UInt8.toNat_inj.1
      simp only [UInt8.lt_iff_toNat_lt] at a1 a2
      omega
    subst e
    exact List.cons_prefix_cons.2 ⟨rfl, between r a b c g1b g2b (h3.2 rfl) (h4.2 rfl)⟩
theorem com_is : ∀ (C : List Ent), C ≠ [] → RisingK C → stem C = comL C := by
  intro C hne hs
  cases C with
  | nil => exact absurd rfl hne
  | cons e C =>
    refine lcpL_eq (by simp) ⟨fun s h => ?_, fun r hr => ?_⟩
    · obtain ⟨x, hx, rfl⟩ := List.mem_map.1 h
      have hl := lcp2_left (keyE e) (keyE ((e :: C).getLast (by simp)))
      have hr := lcp2_right (keyE e) (keyE ((e :: C).getLast (by simp)))
      have ha : x = e ∨ ltK e x := by
        simp only [List.mem_cons] at hx
        rcases hx with rfl | hx
        · exact Or.inl rfl
        · exact Or.inr ((List.pairwise_cons.1 hs).1 x hx)
      have hb : x = (e :: C).getLast (by simp) ∨ ltK x ((e :: C).getLast (by simp)) := by
        obtain ⟨i, hi, rfl⟩ := List.mem_iff_getElem.1 hx
        rw [List.getLast_eq_getElem]
        by_cases h : i = (e :: C).length - 1
        · left; simp [h]
        · right
          exact List.pairwise_iff_getElem.1 hs i _ hi (by simp) (by omega)
      have h1 : Op.bytesLess (keyE x) (keyE e) = false := by
        rcases ha with rfl | h
        · exact bl_irrefl _
        · exact key_le h
      have h2 : Op.bytesLess (keyE ((e :: C).getLast (by simp))) (keyE x) = false := by
        rcases hb with h | h
        · rw [← h]; exact bl_irrefl _
        · exact key_le h
      exact between _ _ _ _ hl hr h1 h2
    · exact lcp2_most _ _ _ (hr _ (List.mem_map.2 ⟨e, by simp, rfl⟩)) (hr _ (List.mem_map.2 ⟨_, List.getLast_mem _, rfl⟩))

theorem pre_less {p s : Wd} (h : p <+: s) (hn : s ≠ p) : Op.bytesLess p s = true := by
  rcases bl_total p s with h1 | h1 | h1
  · exact h1
  · exact absurd h1.symm hn
  · exfalso
    obtain ⟨t, rfl⟩ := h
    clear hn
    induction p with
    | nil => cases t <;> simp [Op.bytesLess] at h1
    | cons a p ih =>
      simp only [List.cons_append, Op.bytesLess, Bool.or_eq_true, decide_eq_true_eq, Bool.and_eq_true, beq_self_eq_true, true_and] at h1
      rcases h1 with h1 | h1
      · simp at h1
      · exact ih h1
theorem byte_le {p a b : Wd} (ha : p <+: a) (hb : p <+: b) (hna : p.length < a.length) (hnb : p.length < b.length) (h : Op.bytesLess b a = false) : (a.getD p.length 0).toNat ≤ (b.getD p.length 0).toNat := by
  obtain ⟨s, rfl⟩ := ha
  obtain ⟨t, rfl⟩ := hb
  induction p with
  | nil =>
    cases s with
    | nil => simp at hna
    | cons x s =>
      cases t with
      | nil => simp at hnb
      | cons y t =>
        simp only [List.nil_append, Op.bytesLess, Bool.or_eq_false_iff, decide_eq_false_iff_not, UInt8.lt_iff_toNat_lt] at h
        simp
        omega
  | cons x p ih =>
    simp only [List.cons_append, Op.bytesLess, Bool.or_eq_false_iff, Bool.and_eq_false_imp, decide_eq_false_iff_not, beq_self_eq_true, true_implies] at h
    have := ih (by simpa using hna) (by simpa using hnb) h.2
    simpa using this
/-- Sorted leaves with one beginning: those that end there, then the runs. -/
theorem here_split {p : Wd} {L : List Ent} (hL : RisingK L) (hp : ∀ e ∈ L, p <+: keyE e) : (∀ e ∈ L.take (hereN L p.length), keyE e = p) ∧ ∀ e ∈ L.drop (hereN L p.length), keyE e ≠ p := by
  have e1 : L.take (hereN L p.length) = L.takeWhile fun e => (keyE e).length == p.length := by
    unfold hereN
    conv => lhs; arg 2; rw [← List.takeWhile_append_dropWhile (p := fun e => (keyE e).length == p.length) (l := L)]
    rw [List.take_left]
  have e2 : L.drop (hereN L p.length) = L.dropWhile fun e => (keyE e).length == p.length := by
    unfold hereN
    conv => lhs; arg 2; rw [← List.takeWhile_append_dropWhile (p := fun e => (keyE e).length == p.length) (l := L)]
    rw [List.drop_left]
  rw [e1, e2]
  refine ⟨fun e he => ?_, fun e he hk => ?_⟩
  · have h1 := tw_all L e he
    have h2 := hp e ((List.takeWhile_sublist _).mem he)
    exact (h2.eq_of_length (by simpa using (beq_iff_eq.1 h1).symm)).symm
  · have hs : RisingK (L.dropWhile fun e => (keyE e).length == p.length) := List.Pairwise.sublist (List.dropWhile_sublist _) hL
    have hm : ∀ e ∈ L.dropWhile (fun e => (keyE e).length == p.length), p <+: keyE e := fun e he => hp e ((List.dropWhile_sublist _).mem he)
    have hd := dw_head (p := fun e : Ent => (keyE e).length == p.length) L
    generalize L.dropWhile (fun e => (keyE e).length == p.length) = B at *
    cases B with
    | nil => simp at he
    | cons b B =>
      have hb := hd b B rfl
      have hbn : keyE b ≠ p := fun h => by rw [h] at hb; simp at hb
      simp only [List.mem_cons] at he
      rcases he with rfl | he
      · exact hbn hk
      · have := key_le ((List.pairwise_cons.1 hs).1 e he)
        rw [hk, pre_less (hm b (by simp)) hbn] at this
        cases this
theorem runs_parts (p : Wd) : ∀ (L : List Ent), RisingK L → (∀ e ∈ L, p <+: keyE e ∧ keyE e ≠ p) → ∃ hs : List (UInt8 × List Ent), runs p.length L = hs.map (·.2) ∧ Heads hs ∧ Under p hs ∧ allOf hs = L ∧ (∀ x ∈ hs, RisingK x.2) ∧ ∀ x ∈ hs, ∃ e g, x.2 = e :: g ∧ x.1 = byteAt p.length e := by
  intro L
  induction L with
  | nil => intro _ _; exact ⟨[], rfl, List.Pairwise.nil, fun _ h => by simp at h, rfl, fun _ h => by simp at h, fun _ h => by simp at h⟩
  | cons e L ih =>
    intro hL hp
    have hL2 := List.pairwise_cons.1 hL
    obtain ⟨hs, h1, h2, h3, h4, h5, h6⟩ := ih hL2.2 (fun x hx => hp x (by simp [hx]))
    have hpe : p ++ [byteAt p.length e] <+: keyE e := (snoc_pre _ _ _).2 ⟨(hp e (by simp)).1, pre_lt (hp e (by simp)).1 (hp e (by simp)).2, rfl⟩
    cases hs with
    | nil =>
      refine ⟨[(byteAt p.length e, [e])], ?_, List.pairwise_singleton _ _, ?_, ?_, ?_, ?_⟩
      · rw [runs, h1]; rfl
      · intro x hx; simp at hx; subst hx
        exact ⟨by simp, fun y hy => by simp at hy; subst hy; exact hpe⟩
      · simp only [allOf, List.flatMap_nil] at h4; rw [← h4]; rfl
      · intro x hx; simp at hx; subst hx; exact List.pairwise_singleton _ _
      · intro x hx; simp at hx; subst hx; exact ⟨e, [], rfl, rfl⟩
    | cons y hs =>
      obtain ⟨x, g, hy, hyb⟩ := h6 y (by simp)
      obtain ⟨yc, yg⟩ := y
      simp only at hy hyb
      subst hy
      subst hyb
      have h1' : runs p.length L = (x :: g) :: hs.map (·.2) := h1
      by_cases hb : byteAt p.length e = byteAt p.length x
      · refine ⟨(byteAt p.length e, e :: x :: g) :: hs, ?_, ?_, ?_, ?_, ?_, ?_⟩
        · rw [runs, h1']; simp [hb]
        · have := List.pairwise_cons.1 h2
          exact List.pairwise_cons.2 ⟨fun z hz => by have := this.1 z hz; rw [hb]; exact this, this.2⟩
        · intro z hz
          simp only [List.mem_cons] at hz
          rcases hz with rfl | hz
          · refine ⟨by simp, fun w hw => ?_⟩
            rcases List.mem_cons.1 hw with rfl | hw
            · exact hpe
            · show p ++ [byteAt p.length e] <+: keyE w
              rw [hb]; exact (h3 (byteAt p.length x, x :: g) (by simp)).2 w hw
          · exact h3 z (by simp [hz])
        · rw [← h4]; rfl
        · intro z hz
          simp only [List.mem_cons] at hz
          rcases hz with rfl | hz
          · refine List.pairwise_cons.2 ⟨fun w hw => hL2.1 w ?_, h5 (byteAt p.length x, x :: g) (by simp)⟩
            rw [← h4]; exact List.mem_append_left _ hw
          · exact h5 z (by simp [hz])
        · intro z hz
          simp only [List.mem_cons] at hz
          rcases hz with rfl | hz
          · exact ⟨e, x :: g, rfl, rfl⟩
          · exact h6 z (by simp [hz])
      · refine ⟨(byteAt p.length e, [e]) :: (byteAt p.length x, x :: g) :: hs, ?_, ?_, ?_, ?_, ?_, ?_⟩
        · rw [runs, h1']; simp [hb]
        · have hx : x ∈ L := by rw [← h4]; simp [allOf]
          have hlt : (byteAt p.length e).toNat < (byteAt p.length x).toNat := by
            have a1 := hp e (by simp)
            have a2 := hp x (by simp [hx])
            have := byte_le a1.1 a2.1 (pre_lt a1.1 a1.2) (pre_lt a2.1 a2.2) (key_le (hL2.1 x hx))
            have hne : (byteAt p.length e).toNat ≠ (byteAt p.length x).toNat := fun h => hb (UInt8.toNat_inj.1 h)
            unfold byteAt at *
            omega
          refine List.pairwise_cons.2 ⟨fun z hz => ?_, h2⟩
          simp only [List.mem_cons] at hz
          rcases hz with rfl | hz
          · exact hlt
          · have := (List.pairwise_cons.1 h2).1 z hz
            exact Nat.lt_trans hlt this
        · intro z hz
          rw [List.mem_cons] at hz
          rcases hz with rfl | hz
          · exact ⟨by simp, fun y hy => by simp at hy; subst hy; exact hpe⟩
          · exact h3 z hz
        · rw [← h4]; rfl
        · intro z hz
          rw [List.mem_cons] at hz
          rcases hz with rfl | hz
          · exact List.pairwise_singleton _ _
          · exact h5 z hz
        · intro z hz
          rw [List.mem_cons] at hz
          rcases hz with rfl | hz
          · exact ⟨e, [], rfl, rfl⟩
          · exact h6 z hz
theorem rising_of_K {p : Wd} {l : List Ent} (h : RisingK l) (hk : ∀ e ∈ l, keyE e = p) : Rising l := by
  refine List.Pairwise.imp_of_mem (fun {a b} ha hb h => ?_) h
  rcases h with h | h
  · rw [hk a ha, hk b hb, bl_irrefl] at h; cases h
  · exact h.2
/-- WRITTEN FROM LEAVES, a node is the same. -/
theorem wr_body : ∀ (f : Nat) (p : Wd) (L : List Ent), RisingK L → (∀ e ∈ L, p <+: keyE e) → wrBody f p.length L = bodyC f p (sortN L) := by
  intro f
  induction f with
  | zero => intro p L _ _; rfl
  | succ f ih =>
    intro p L hL hp
    obtain ⟨h1, h2⟩ := here_split hL hp
    have hLd : RisingK (L.drop (hereN L p.length)) := List.Pairwise.sublist (List.drop_sublist _ _) hL
    have hLt : RisingK (L.take (hereN L p.length)) := List.Pairwise.sublist (List.take_sublist _ _) hL
    obtain ⟨hs, r1, r2, r3, r4, r5, r6⟩ := runs_parts p _ hLd (fun e he => ⟨hp e (List.mem_of_mem_drop he), h2 e he⟩)
    have hcat : L.take (hereN L p.length) ++ allOf hs = L := by rw [r4, List.take_append_drop]
    have hb := body_parts f p (L.take (hereN L p.length)) hs (rising_of_K hLt h1) h1 r2 r3
    rw [hcat] at hb
    have hlen : (L.take (hereN L p.length)).length = hereN L p.length := by
      have : hereN L p.length ≤ L.length := (List.takeWhile_sublist _).length_le
      simp; omega
    rw [hb, wrBody, r1, List.length_map, hlen, List.flatMap_map]
    congr 4
    refine flatMap_same fun x hx => ?_
    have hne := (r3 x hx).1
    have hst := com_is x.2 hne (r5 x hx)
    unfold Part
    rw [hst, ih (comL x.2) x.2 (r5 x hx) (fun e he => ?_)]
    rw [← hst]
    exact (stem_is hne).1 _ (List.mem_map.2 ⟨e, he, rfl⟩)

end Go.Proofs.YtocbogeoffeolaaGreatDoor

namespace Go.Proofs.YtocbogeoffeolaaGreatDoor
open Go.RowKit

def names (l : List Ent) : List Wd := l.map Ent.name
theorem keeps_iff {l : List Ent} {e : Ent} : keepsB l e = true ↔ e.name ∉ names l := by
  unfold keepsB names
  constructor
  · intro h
    refine find_none ?_
    cases hf : findI l e.name with
    | none => rfl
    | some i => rw [hf] at h; simp at h
  · intro h
    rw [find_none' h]; rfl
theorem over_mem {a b : List Ent} {e : Ent} : e ∈ overL a b ↔ (e ∈ a ∧ e.name ∉ names b) ∨ e ∈ b := by
  unfold overL
  rw [List.mem_append, List.mem_filter, keeps_iff]
theorem mem_names {l : List Ent} {x : Wd} : x ∈ names l ↔ ∃ e ∈ l, e.name = x := by unfold names; rw [List.mem_map]
theorem names_over {a b : List Ent} {x : Wd} : x ∈ names (overL a b) ↔ x ∈ names a ∨ x ∈ names b := by
  rw [mem_names, mem_names, mem_names]
  constructor
  · rintro ⟨e, he, rfl⟩
    rcases over_mem.1 he with h | h
    · exact Or.inl ⟨e, h.1, rfl⟩
    · exact Or.inr ⟨e, h, rfl⟩
  · rintro (⟨e, he, rfl⟩ | ⟨e, he, rfl⟩)
    · by_cases h : e.name ∈ names b
      · obtain ⟨f, hf, hn⟩ := mem_names.1 h
        exact ⟨f, over_mem.2 (Or.inr hf), hn⟩
      · exact ⟨e, over_mem.2 (Or.inl ⟨he, h⟩), rfl⟩
    · exact ⟨e, over_mem.2 (Or.inr he), rfl⟩
theorem over_nodup {a b : List Ent} (ha : (a.map Ent.name).Nodup) (hb : (b.map Ent.name).Nodup) : ((overL a b).map Ent.name).Nodup := by
  unfold overL
  rw [List.map_append, List.nodup_append]
  refine ⟨ha.sublist (List.filter_sublist.map _), hb, ?_⟩
  intro x hx y hy e
  subst e
  obtain ⟨f, hf, rfl⟩ := List.mem_map.1 hx
  exact (keeps_iff.1 (List.mem_filter.1 hf).2) hy
theorem living_nodup {a : List Ent} (ha : (a.map Ent.name).Nodup) : ((livingL a).map Ent.name).Nodup := ha.sublist (List.filter_sublist.map _)
theorem keeps_congr {b c : List Ent} (h : ∀ x, x ∈ names b ↔ x ∈ names c) (e : Ent) : keepsB b e = keepsB c e := by
  rw [Bool.eq_iff_iff, keeps_iff, keeps_iff, h]
theorem over_perm {a a' b b' : List Ent} (h1 : a.Perm a') (h2 : b.Perm b') : (overL a b).Perm (overL a' b') := by
  unfold overL
  refine List.Perm.append ?_ h2
  have : a.filter (keepsB b) = a.filter (keepsB b') := List.filter_congr fun e _ => keeps_congr (fun x => (h2.map Ent.name).mem_iff) e
  rw [this]
  exact h1.filter _
theorem living_perm {a b : List Ent} (h : a.Perm b) : (livingL a).Perm (livingL b) := h.filter _
theorem over_assoc (a b c : List Ent) : overL (overL a b) c = overL a (overL b c) := by
  have h : ∀ e, keepsB (overL b c) e = (keepsB b e && keepsB c e) := by
    intro e
    rw [Bool.eq_iff_iff, Bool.and_eq_true, keeps_iff, keeps_iff, keeps_iff, names_over]
    exact not_or
  unfold overL at h ⊢
  rw [List.filter_append, List.filter_filter, List.append_assoc]
  congr 1
  refine List.filter_congr fun e _ => ?_
  rw [h e, Bool.and_comm]
theorem over_nil (a : List Ent) : overL [] a = a := by simp [overL]
theorem over_nil' (a : List Ent) : overL a [] = a := by
  unfold overL
  rw [List.append_nil, List.filter_eq_self]
  intro e _
  exact keeps_iff.2 (by simp [names])
theorem living_over_living (a b : List Ent) : livingL (overL (livingL a) b) = livingL (overL a b) := by
  unfold livingL overL
  rw [List.filter_append, List.filter_append, List.filter_filter, List.filter_filter]
  congr 1
  rw [List.filter_filter]
  refine List.filter_congr fun e _ => ?_
  cases e.gone <;> simp
theorem living_living (a : List Ent) : livingL (livingL a) = livingL a := by
  unfold livingL
  rw [List.filter_filter]
  refine List.filter_congr fun e _ => ?_
  cases e.gone <;> simp
theorem living_fold (L : List (List Ent)) : ∀ a : List Ent, livingL (L.foldl overL (livingL a)) = livingL (L.foldl overL a) := by
  induction L with
  | nil => intro a; exact living_living a
  | cons b L ih =>
    intro a
    rw [List.foldl_cons, List.foldl_cons, ← ih (overL (livingL a) b), living_over_living, ih]
def foldO (L : List (List Ent)) : List Ent := L.foldl overL []
theorem foldO_append (L M : List (List Ent)) : foldO (L ++ M) = M.foldl overL (foldO L) := by unfold foldO; rw [List.foldl_append]
theorem foldO_snoc (L : List (List Ent)) (b : List Ent) : foldO (L ++ [b]) = overL (foldO L) b := by rw [foldO_append]; rfl
theorem thereTo_eq (ss : List (List Ent)) (k : Nat) : thereTo ss k = foldO (ss.take k) := rfl
theorem there_eq (ss : List (List Ent)) (buf : List Ent) : thereL ss buf = livingL (foldO (ss ++ [buf])) := by
  unfold thereL
  rw [foldO_snoc, thereTo_eq, List.take_length]
theorem living_le_over (a b : List Ent) : (livingL b).length ≤ (livingL (overL a b)).length := by
  unfold overL livingL
  rw [List.filter_append, List.length_append]
  omega
theorem living_le (a : List Ent) : (livingL a).length ≤ a.length := List.length_filter_le _ _
theorem gone_count (l : List Ent) : l.length - (livingL l).length = (l.filter fun e => e.gone).length := by
  have h : ∀ l : List Ent, (l.filter fun e => e.gone).length + (livingL l).length = l.length := by
    intro l
    unfold livingL
    induction l with
    | nil => rfl
    | cons e l ih =>
      cases h : e.gone <;> simp [h] <;> omega
  have := h l
  omega

/-- What every call keeps. -/
structure Inv (buf : List Ent) (ss : List (List Ent)) : Prop where
  each : ∀ e ∈ buf, okG e
  nodup : (buf.map Ent.name).Nodup
  gone : (buf.filter fun e => e.gone).length ≤ 100
  segs : ∀ s ∈ ss, OkSeg s
  few : ss.length ≤ 6
  there : ∀ k, k ≤ ss.length → (livingL (foldO (ss.take k))).length ≤ 30
  all : (thereL ss buf).length ≤ 30

theorem inv_new : Inv [] [] := ⟨fun _ h => by simp at h, List.Pairwise.nil, by simp, fun _ h => by simp at h, by simp, fun k _ => by simp [foldO, livingL], by simp [thereL, thereTo, overL, livingL]⟩
theorem over_one_gone (buf : List Ent) (e : Ent) : ((overL buf [e]).filter fun e => e.gone).length ≤ (buf.filter fun e => e.gone).length + (if e.gone then 1 else 0) := by
  unfold overL
  rw [List.filter_append, List.length_append, List.filter_filter]
  have h1 : (buf.filter fun x => x.gone && keepsB [e] x).length ≤ (buf.filter fun x => x.gone).length := by
    rw [show (buf.filter fun x => x.gone && keepsB [e] x) = (buf.filter fun x => x.gone).filter (keepsB [e]) by rw [List.filter_filter]; exact List.filter_congr fun x _ => Bool.and_comm _ _]
    exact List.length_filter_le _ _
  cases h : e.gone <;> simp [h] <;> omega
theorem Inv.over1 {buf : List Ent} {ss : List (List Ent)} (h : Inv buf ss) {e : Ent} (he : okG e) (hg : ((overL buf [e]).filter fun e => e.gone).length ≤ 100) (ha : (thereL ss (overL buf [e])).length ≤ 30) : Inv (overL buf [e]) ss where
  each := fun x hx => by
    rcases over_mem.1 hx with h1 | h1
    · exact h.each x h1.1
    · simp only [List.mem_singleton] at h1; subst h1; exact he
  nodup := over_nodup h.nodup (by simp)
  gone := hg
  segs := h.segs
  few := h.few
  there := h.there
  all := ha
theorem there_over1 (ss : List (List Ent)) (buf : List Ent) (e : Ent) : thereL ss (overL buf [e]) = livingL (overL (foldO (ss ++ [buf])) [e]) := by
  rw [there_eq, foldO_snoc, foldO_snoc, over_assoc]
theorem living_over1 (T : List Ent) (e : Ent) : livingL (overL T [e]) = (livingL T).filter (keepsB [e]) ++ livingL [e] := by
  unfold livingL overL
  rw [List.filter_append, List.filter_filter, List.filter_filter]
  congr 1
  exact List.filter_congr fun x _ => Bool.and_comm _ _
theorem inv_ups {buf : List Ent} {ss : List (List Ent)} (h : Inv buf ss) (name text : Wd) (weight tags : Int) : Inv (upsL buf ss name text weight tags).2 ss := by
  unfold upsL
  split
  · rename_i hn
    split
    · rename_i ht
      split
      · exact h
      · rename_i hw
        split
        · exact h
        · rename_i hm
          show Inv (overL buf [⟨name, false, text, weight, tags⟩]) ss
          refine h.over1 (Or.inl ⟨rfl, hn, ht.1, ht.2, by simp; omega, by simp; omega, by simp; omega, by simp; omega⟩) ?_ ?_
          · have := over_one_gone buf ⟨name, false, text, weight, tags⟩
            have := h.gone
            simp only [Bool.false_eq_true, if_false] at *
            omega
          · rw [there_over1, living_over1, List.length_append]
            have e1 : (livingL [(⟨name, false, text, weight, tags⟩ : Ent)]).length = 1 := rfl
            rw [e1]
            have ha := h.all
            rw [there_eq] at ha hm
            generalize livingL (foldO (ss ++ [buf])) = T at *
            by_cases h30 : 30 ≤ T.length
            · have hf : findI T name ≠ none := fun hf => hm ⟨h30, hf⟩
              have hin : name ∈ names T := by
                by_cases hc : name ∈ names T
                · exact hc
                · exact absurd (find_none' hc) hf
              obtain ⟨x, hx, hxn⟩ := mem_names.1 hin
              have : (T.filter (keepsB [⟨name, false, text, weight, tags⟩])).length < T.length := by
                rw [List.length_filter_lt_length_iff_exists]
                refine ⟨x, hx, ?_⟩
                rw [keeps_iff]
                simp [names, hxn]
              omega
            · have := List.length_filter_le (keepsB [⟨name, false, text, weight, tags⟩]) T
              omega
    · exact h
  · exact h
theorem inv_del {buf : List Ent} {ss : List (List Ent)} (h : Inv buf ss) (name : Wd) : Inv (delL buf ss name).2 ss := by
  unfold delL
  split
  · rename_i hn
    split
    · exact h
    · split
      · exact h
      · rename_i hg
        rw [gone_count] at hg
        show Inv (overL buf [⟨name, true, [], 0, 0⟩]) ss
        refine h.over1 (Or.inr ⟨rfl, hn⟩) ?_ ?_
        · have := over_one_gone buf ⟨name, true, [], 0, 0⟩
          simp only [if_true] at this
          omega
        · rw [there_over1, living_over1, List.length_append]
          have e1 : (livingL [(⟨name, true, [], 0, 0⟩ : Ent)]).length = 0 := rfl
          rw [e1]
          have ha := h.all
          rw [there_eq] at ha
          have := List.length_filter_le (keepsB [⟨name, true, [], 0, 0⟩]) (livingL (foldO (ss ++ [buf])))
          omega
  · exact h
theorem filter_living_gone (l : List Ent) : ((livingL l).filter fun e => e.gone) = [] := by
  rw [List.filter_eq_nil_iff]
  intro e he
  have := (List.mem_filter.1 he).2
  simpa using this
theorem okseg_of {l : List Ent} (h1 : ∀ e ∈ l, okG e) (h2 : (l.map Ent.name).Nodup) (h3 : 0 < l.length) (h4 : (l.filter fun e => e.gone).length ≤ 100) (h5 : (livingL l).length ≤ 30) : OkSeg l :=
  ⟨h1, h2, fun e => by rw [e] at h3; simp at h3, h4, h5⟩
theorem inv_flush {buf : List Ent} {ss : List (List Ent)} (h : Inv buf ss) : Inv (flushL buf ss).2.1 (flushL buf ss).2.2 := by
  unfold flushL
  split
  · exact h
  · split
    · exact h
    · rename_i hb h6
      have hnew : ∀ ss' : List (List Ent), (∀ s ∈ ss', OkSeg s) → ss'.length ≤ 6 → (∀ k, k ≤ ss'.length → (livingL (foldO (ss'.take k))).length ≤ 30) → Inv [] ss' := fun ss' g1 g2 g3 =>
        ⟨fun _ h => by simp at h, List.Pairwise.nil, by simp, g1, g2, g3, by
          rw [there_eq, foldO_snoc, over_nil']
          have := g3 ss'.length (Nat.le_refl _)
          rw [List.take_length] at this
          exact this⟩
      have hall := h.all
      rw [there_eq, foldO_snoc] at hall
      have hlb : (livingL buf).length ≤ 30 := Nat.le_trans (living_le_over _ _) hall
      show Inv [] (if 0 < (flushed buf ss).length then ss ++ [flushed buf ss] else ss)
      split
      · rename_i hpos
        refine hnew _ ?_ (by simp; omega) ?_
        · intro s hs
          rcases List.mem_append.1 hs with h1 | h1
          · exact h.segs s h1
          · simp only [List.mem_singleton] at h1
            subst h1
            unfold flushed at hpos ⊢
            split
            · rename_i h0
              rw [if_pos h0] at hpos
              refine okseg_of (fun e he => h.each e (List.mem_filter.1 he).1) (living_nodup h.nodup) hpos ?_ ?_
              · rw [filter_living_gone]; simp
              · rw [living_living]; exact hlb
            · rename_i h0
              rw [if_neg h0] at hpos
              exact okseg_of h.each h.nodup hpos h.gone hlb
        · intro k hk
          rw [List.length_append, List.length_singleton] at hk
          by_cases hlt : k ≤ ss.length
          · rw [List.take_append_of_le_length hlt]
            exact h.there k hlt
          · rw [List.take_of_length_le (by simp; omega), foldO_snoc]
            unfold flushed
            split
            · rename_i h0
              have : ss = [] := List.length_eq_zero_iff.1 h0
              subst this
              show (livingL (overL [] (livingL buf))).length ≤ 30
              rw [over_nil, living_living]
              exact hlb
            · exact hall
      · exact hnew ss h.segs h.few h.there

theorem foldO_merge (L M : List (List Ent)) (a b : List Ent) : foldO (L ++ [overL a b] ++ M) = foldO (L ++ [a, b] ++ M) := by
  rw [foldO_append (L ++ [overL a b]) M, foldO_append (L ++ [a, b]) M, foldO_snoc]
  congr 1
  rw [show L ++ [a, b] = (L ++ [a]) ++ [b] by simp, foldO_snoc, foldO_snoc, over_assoc]

def mgOf (n : Nat) (a b : List Ent) : List Ent := if n = 0 then livingL (overL a b) else overL a b
def midOf (n : Nat) (a b : List Ent) : List (List Ent) := if 0 < (mgOf n a b).length then [mgOf n a b] else []
theorem mid_mem {n : Nat} {a b s : List Ent} (h : s ∈ midOf n a b) : s = mgOf n a b ∧ 0 < s.length := by
  unfold midOf at h
  split at h
  · rename_i hp
    simp only [List.mem_singleton] at h
    subst h
    exact ⟨rfl, hp⟩
  · simp at h
theorem living_merge (L X : List (List Ent)) (a b : List Ent) : livingL (foldO (L ++ (midOf L.length a b ++ X))) = livingL (foldO (L ++ ([a, b] ++ X))) := by
  unfold midOf mgOf
  by_cases h0 : L.length = 0
  · have : L = [] := List.length_eq_zero_iff.1 h0
    subst this
    simp only [List.length_nil, if_true, List.nil_append]
    have e2 : foldO ([a, b] ++ X) = X.foldl overL (overL a b) := by
      rw [foldO_append]
      show X.foldl overL (overL (overL [] a) b) = _
      rw [over_nil]
    rw [e2, ← living_fold X (overL a b)]
    split
    · rw [foldO_append]
      show livingL (X.foldl overL (overL [] (livingL (overL a b)))) = _
      rw [over_nil]
    · rename_i hz
      have : livingL (overL a b) = [] := List.length_eq_zero_iff.1 (by omega)
      rw [this]
      rfl
  · rw [if_neg h0]
    split
    · rw [← List.append_assoc, ← List.append_assoc, foldO_merge]
    · rename_i hz
      have hz : overL a b = [] := List.length_eq_zero_iff.1 (by omega)
      have e := foldO_merge L X a b
      rw [hz] at e
      have e3 : foldO (L ++ [[]] ++ X) = foldO (L ++ ([] ++ X)) := by
        rw [foldO_append, foldO_snoc, over_nil', List.nil_append, foldO_append]
      rw [← e3, e, List.append_assoc]
theorem split_two (ss : List (List Ent)) (n : Nat) (h : n + 1 < ss.length) : ss = ss.take n ++ ([ss.getD n [], ss.getD (n + 1) []] ++ ss.drop (n + 2)) := by
  have e1 : ss.getD n [] = ss[n] := by rw [List.getD_eq_getElem?_getD, List.getElem?_eq_getElem (by omega)]; rfl
  have e2 : ss.getD (n + 1) [] = ss[n + 1] := by rw [List.getD_eq_getElem?_getD, List.getElem?_eq_getElem (by omega)]; rfl
  rw [e1, e2]
  have h1 : ss.drop n = ss[n] :: ss[n + 1] :: ss.drop (n + 2) := by
    rw [List.drop_eq_getElem_cons (by omega), List.drop_eq_getElem_cons (by omega)]
  have := List.take_append_drop n ss
  rw [h1] at this
  exact this.symm
theorem merged_mid (ss : List (List Ent)) (n : Nat) : (if 0 < (merged ss n).length then [merged ss n] else []) = midOf n (ss.getD n []) (ss.getD (n + 1) []) := rfl
theorem there_merge (ss : List (List Ent)) (n : Nat) (h : n + 1 < ss.length) (Y : List (List Ent)) : livingL (foldO ((ss.take n ++ (midOf n (ss.getD n []) (ss.getD (n + 1) []) ++ ss.drop (n + 2))) ++ Y)) = livingL (foldO (ss ++ Y)) := by
  have hl : (ss.take n).length = n := by simp; omega
  have e := living_merge (ss.take n) (ss.drop (n + 2) ++ Y) (ss.getD n []) (ss.getD (n + 1) [])
  rw [hl] at e
  conv => rhs; rw [split_two ss n h]
  simp only [List.append_assoc] at e ⊢
  exact e
theorem mid_len (n : Nat) (a b : List Ent) : (midOf n a b).length ≤ 1 := by unfold midOf; split <;> simp
theorem take_part {α : Type} (A B : List α) (k : Nat) (h : A.length ≤ k) : (A ++ B).take k = A ++ B.take (k - A.length) := by
  rw [List.take_append, List.take_of_length_le h]
theorem inv_merge {buf : List Ent} {ss : List (List Ent)} (h : Inv buf ss) (n : Int) : Inv buf (mergeL ss n).2 := by
  unfold mergeL
  split
  · exact h
  · split
    · exact h
    · rename_i hn hg
      obtain ⟨m, rfl⟩ : ∃ m : Nat, n = (m : Int) := ⟨n.toNat, by omega⟩
      have hm : m + 1 < ss.length := by omega
      rw [Int.toNat_natCast] at *
      rw [merged_mid] at *
      show Inv buf (ss.take m ++ (midOf m (ss.getD m []) (ss.getD (m + 1) []) ++ ss.drop (m + 2)))
      have hsp := split_two ss m hm
      have htm := there_merge ss m hm [buf]
      have hmm : ss.getD m [] ∈ ss ∧ ss.getD (m + 1) [] ∈ ss := by
        rw [List.getD_eq_getElem?_getD, List.getD_eq_getElem?_getD, List.getElem?_eq_getElem (by omega), List.getElem?_eq_getElem hm]
        exact ⟨List.getElem_mem _, List.getElem_mem _⟩
      have hA : OkSeg (ss.getD m []) := h.segs _ hmm.1
      have hB : OkSeg (ss.getD (m + 1) []) := h.segs _ hmm.2
      change ¬ 100 < (mgOf m (ss.getD m []) (ss.getD (m + 1) [])).length - (livingL (mgOf m (ss.getD m []) (ss.getD (m + 1) []))).length at hg
      clear hmm
      generalize ss.getD m [] = A at *
      generalize ss.getD (m + 1) [] = B at *
      have hml := mid_len m A B
      have hth : (livingL (overL A B)).length ≤ 30 := by
        have h2 := h.there (m + 2) (by omega)
        have e : ss.take (m + 2) = ss.take m ++ [A, B] := by
          conv => lhs; rw [hsp]
          rw [take_part _ _ _ (by simp; omega)]
          have : (ss.take m).length = m := by simp; omega
          rw [this, show m + 2 - m = 2 by omega]
          simp
        rw [e, show ss.take m ++ [A, B] = (ss.take m ++ [A]) ++ [B] by simp, foldO_snoc, foldO_snoc, over_assoc] at h2
        exact Nat.le_trans (living_le_over _ _) h2
      refine ⟨h.each, h.nodup, h.gone, ?_, ?_, ?_, ?_⟩
      · intro s hs
        rcases List.mem_append.1 hs with h1 | h1
        · exact h.segs s (List.mem_of_mem_take h1)
        · rcases List.mem_append.1 h1 with h1 | h1
          · obtain ⟨h1, hpos⟩ := mid_mem h1
            · rw [← h1, gone_count] at hg
              unfold mgOf at h1
              have hmem : ∀ e ∈ s, e ∈ overL (A) (B) := by
                intro e he
                rw [h1] at he
                split at he
                · exact (List.mem_filter.1 he).1
                · exact he
              have hnd := over_nodup hA.nodup hB.nodup
              refine okseg_of (fun e he => ?_) ?_ hpos (by omega) ?_
              · rcases over_mem.1 (hmem e he) with h2 | h2
                · exact hA.each e h2.1
                · exact hB.each e h2
              · rw [h1]
                split
                · exact living_nodup hnd
                · exact hnd
              · rw [h1]
                split
                · rw [living_living]; exact hth
                · exact hth
          · exact h.segs s (List.mem_of_mem_drop h1)
      · have := h.few
        simp only [List.length_append, List.length_take, List.length_drop]
        omega
      · intro k hk
        by_cases hkm : k ≤ m
        · rw [List.take_append_of_le_length (by simp; omega), List.take_take, Nat.min_eq_left hkm]
          exact h.there k (by omega)
        · have e0 : (ss.take m).length = m := by simp; omega
          rw [take_part _ _ _ (by rw [e0]; omega), e0, take_part _ _ _ (by omega)]
          have e := living_merge (ss.take m) ((ss.drop (m + 2)).take (k - m - (midOf m A B).length)) (A) (B)
          rw [e0] at e
          rw [e]
          have e4 : ss.take m ++ ([A, B] ++ (ss.drop (m + 2)).take (k - m - (midOf m A B).length)) = ss.take (m + 2 + (k - m - (midOf m A B).length)) := by
            conv => rhs; rw [hsp]
            rw [take_part _ _ _ (by rw [e0]; omega), e0, take_part _ _ _ (by simp; omega)]
            congr 3
            simp
            omega
          rw [e4]
          refine h.there _ ?_
          simp only [List.length_append, List.length_take, List.length_drop] at hk
          omega
      · rw [there_eq, htm, ← there_eq]
        exact h.all

/-- Load: its answer; the segments behind it. -/
def loadL (buf : List Ent) (ss : List (List Ent)) (bs : Wd) : Nat × List (List Ent) :=
  match unpackL bs with
  | none => (7, ss)
  | some l => if 0 < buf.length then (3, ss) else if 6 < ss.length + 1 ∨ 30 < (thereL (ss ++ [l]) []).length then (4, ss) else (0, ss ++ [l])
theorem unpack_ok {bs : Wd} {l : List Ent} (h : unpackL bs = some l) : OkSeg l ∧ packC l = bs := by
  rw [unpack_eq] at h
  split at h
  · simp at h
  · obtain ⟨x, hx, rfl⟩ := Option.map_eq_some_iff.1 h
    have := rdSeg_some hx
    exact ⟨this.1, this.2.1.symm⟩
theorem inv_load {buf : List Ent} {ss : List (List Ent)} (h : Inv buf ss) (bs : Wd) : Inv buf (loadL buf ss bs).2 := by
  unfold loadL
  split
  · exact h
  · rename_i l hl
    split
    · exact h
    · split
      · exact h
      · rename_i hb hm
        have hb0 : buf = [] := List.length_eq_zero_iff.1 (by omega)
        subst hb0
        have ht : (livingL (foldO (ss ++ [l]))).length ≤ 30 := by
          have : (thereL (ss ++ [l]) []).length ≤ 30 := by omega
          rw [there_eq, foldO_snoc, over_nil'] at this
          exact this
        refine ⟨h.each, h.nodup, h.gone, ?_, by simp; omega, ?_, by show (thereL (ss ++ [l]) []).length ≤ 30; omega⟩
        · intro s hs
          rcases List.mem_append.1 hs with h1 | h1
          · exact h.segs s h1
          · simp only [List.mem_singleton] at h1
            subst h1
            exact (unpack_ok hl).1
        · intro k hk
          show (livingL (foldO ((ss ++ [l]).take k))).length ≤ 30
          rw [List.length_append, List.length_singleton] at hk
          by_cases hlt : k ≤ ss.length
          · rw [List.take_append_of_le_length hlt]
            exact h.there k hlt
          · rw [List.take_of_length_le (by simp; omega)]
            exact ht

end Go.Proofs.YtocbogeoffeolaaGreatDoor

namespace Go.Proofs.YtocbogeoffeolaaGreatDoor
open Go.RowKit Go.Maps

theorem put_over (es : List Ent) (e : Ent) (v : Value) (hv : v = sayV e) : putP (es.map sayP) e.name v = (overL es [e]).map sayP := by
  subst hv
  unfold putP overL
  rw [List.map_append, List.filter_map]
  have : (es.filter ((fun p : Wd × Value => p.1 != e.name) ∘ sayP)) = es.filter (keepsB [e]) := by
    refine List.filter_congr fun x _ => ?_
    rw [Bool.eq_iff_iff, keeps_iff]
    simp [names, sayP]
  rw [this]
  rfl

theorem SayM.perm {w : World} {B : Nat} {es fs : List Ent} (h : SayM w B es) (hp : es.Perm fs) : SayM w B fs := MapL.perm h (hp.map sayP)
theorem SayM.nodup {w : World} {B : Nat} {es : List Ent} (h : SayM w B es) : (es.map Ent.name).Nodup := by
  have := MapL.nodup h
  rw [List.map_map] at this
  exact this

set_option maxHeartbeats 1000000 in
set_option maxRecDepth 100000 in
theorem put_any (B : Nat) (es : List Ent) (e : Ent) (w : World) (hs : SayM w B es) (hg : e.gone = false) (hl : es.length < 1099511627776) (hnl : e.name.length ≤ maxLen) :
    Calls Tryz.prog 72 #[.map (some B), entV e] w fun en w' => en = .returned (.tuple #[]) ∧ SayM w' B (overL es [e]) ∧ FrameF (· = B) w w' := by
  obtain ⟨nm, gn, tx, wt, tg⟩ := e
  simp only at hg
  subst hg
  have hput := put_over es ⟨nm, false, tx, wt, tg⟩ (.agg #[.bool false, .string ⟨nm.toArray⟩, .string ⟨tx.toArray⟩, .int .i64 wt, .int .i64 tg]) rfl
  obtain ⟨w0, hw0⟩ : ∃ w0, w.alloc (.cells #[.string ⟨nm.toArray⟩, .string ⟨tx.toArray⟩, .int .i64 wt, .int .i64 tg] 96) = w0 := ⟨_, rfl⟩
  have hb0 : Below w.heap.size w w0 := by rw [← hw0]; exact (Below.refl _ _).alloc (Nat.le_refl _) _
  have hh0 : w0.heap[w.heap.size]? = some (.cells #[.string ⟨nm.toArray⟩, .string ⟨tx.toArray⟩, .int .i64 wt, .int .i64 tg] 96 (0, 0)) := by rw [← hw0]; exact heap_alloc_new w _
  have d0 : w0.cell? ⟨w.heap.size, 0, none⟩ = some (.string ⟨nm.toArray⟩) := by rw [cell_of_heap hh0]; rfl
  have d1 : w0.cell? ⟨w.heap.size, 1, none⟩ = some (.string ⟨tx.toArray⟩) := by rw [cell_of_heap hh0]; rfl
  have d2 : w0.cell? ⟨w.heap.size, 2, none⟩ = some (.int .i64 wt) := by rw [cell_of_heap hh0]; rfl
  have d3 : w0.cell? ⟨w.heap.size, 3, none⟩ = some (.int .i64 tg) := by rw [cell_of_heap hh0]; rfl
  have HB0 : Hid (Below w.heap.size w w0) := hb0
  have HS0 : Hid (SayM w0 B es) := MapL.below hs hb0
  have HP : Hid (putP (es.map sayP) nm (.agg #[.bool false, .string ⟨nm.toArray⟩, .string ⟨tx.toArray⟩, .int .i64 wt, .int .i64 tg]) = (overL es [⟨nm, false, tx, wt, tg⟩]).map sayP) := hput
  clear hs hh0 hb0 hput
  unfold entV
  go_enter Tryz.func72, Tryz.ntmps72
  go_wp2_with (first | (at_mapUpdate; refine wpList_putL _ rfl _ _ _ 85 rfl 111 Tryz.underlying9 Tryz.underlying85 rfl HS0.out (by rw [List.length_map]; unfold maxLen; omega) nm hnl rfl (.agg #[.bool false, .string ⟨nm.toArray⟩, .string ⟨tx.toArray⟩, .int .i64 wt, .int .i64 tg]) rfl ?_; intro w1 hm1 hg1 hs1))
  go_end0
  refine ⟨rfl, ?_, (FrameF.of_below HB0.out).then (FrameF.of_grown hg1)⟩
  unfold SayM
  rw [← HP.out]
  exact hm1

set_option maxHeartbeats 1000000 in
set_option maxRecDepth 100000 in
theorem takeAway_any (B : Nat) (es : List Ent) (nm : Wd) (w : World) (hs : SayM w B es) (hl : es.length < 1099511627776) (hnl : nm.length ≤ maxLen) :
    Calls Tryz.prog 71 #[.map (some B), .string ⟨nm.toArray⟩] w fun en w' => en = .returned (.tuple #[]) ∧ SayM w' B (overL es [⟨nm, true, [], 0, 0⟩]) ∧ FrameF (· = B) w w' := by
  have hput := put_over es ⟨nm, true, [], 0, 0⟩ (.agg #[.bool true, .string ⟨#[]⟩, .string ⟨#[]⟩, .int .i64 0, .int .i64 0]) rfl
  have HS0 : Hid (SayM w B es) := hs
  have HP : Hid (putP (es.map sayP) nm (.agg #[.bool true, .string ⟨#[]⟩, .string ⟨#[]⟩, .int .i64 0, .int .i64 0]) = (overL es [⟨nm, true, [], 0, 0⟩]).map sayP) := hput
  clear hs hput
  go_enter Tryz.func71, Tryz.ntmps71
  go_wp2_with (first | (at_mapUpdate; refine wpList_putL _ rfl _ _ _ 85 rfl 111 Tryz.underlying9 Tryz.underlying85 rfl HS0.out (by rw [List.length_map]; unfold maxLen; omega) nm hnl rfl (.agg #[.bool true, .string ⟨#[]⟩, .string ⟨#[]⟩, .int .i64 0, .int .i64 0]) rfl ?_; intro w1 hm1 hg1 hs1))
  go_end0
  refine ⟨rfl, ?_, FrameF.of_grown hg1⟩
  unfold SayM
  rw [← HP.out]
  exact hm1

/-- A range over a layer, under way: those that are still to come. -/
def SayR (w : World) (B r : Nat) (es rst : List Ent) : Prop := RangeL Tryz.prog 9 w B r (es.map sayP) (rst.map sayP)

theorem RangeL.perm {P : Program} {k : TypeId} {w : World} {B r : Nat} {l a b : List (Wd × Value)} (h : RangeL P k w B r l a) (hp : a.Perm b) : RangeL P k w B r l b := by
  obtain ⟨h1, h2, D, left, cnt, h3, h4, h5⟩ := h
  exact ⟨(hp.map Prod.fst).nodup_iff.1 h1, fun p hm => h2 p (hp.mem_iff.2 hm), D, left, cnt, h3, h4, fun x => by rw [h5 x, any_perm hp]⟩
theorem part_of {rst : List Ent} {p : Wd × Value} {left : List (Wd × Value)} (h : (rst.map sayP).Perm (p :: left)) : ∃ e rst', p = sayP e ∧ left.Perm (rst'.map sayP) ∧ rst.Perm (e :: rst') := by
  have hm : p ∈ rst.map sayP := h.mem_iff.2 (List.mem_cons_self ..)
  obtain ⟨e, he, rfl⟩ := List.mem_map.1 hm
  obtain ⟨a, b, rfl⟩ := List.append_of_mem he
  refine ⟨e, a ++ b, rfl, ?_, List.perm_middle⟩
  have h2 : ((a ++ e :: b).map sayP).Perm (sayP e :: (a ++ b).map sayP) := by
    rw [← List.map_cons]
    exact List.perm_middle.map _
  exact (h.symm.trans h2).cons_inv

section
variable {B : Nat} {es : List Ent} (w : World) {ops : Array Oper} {rest : List Oper} {o : Oper} {a : Act} {Q : Exit → Act → World → Prop}

theorem wpList_rangeS (hg : o.guard = none) (m : Operand) (hop : o.op = Op.range 85 m) (hm : a.eval m = .map (some B)) (h : SayM w B es)
    (hK : ∀ w', SayR w' B w.heap.size es es → w.grownBy w' none → w'.heap.size = w.heap.size + 1 → wpList Tryz.prog ops Q rest (a.put o.dst (.pointer (some ⟨w.heap.size, 0, none⟩))) w') :
    wpList Tryz.prog ops Q (o :: rest) a w :=
  wpList_rangeL w hg m 85 hop 111 Tryz.underlying9 Tryz.underlying85 hm h hK

theorem wpList_nextS (hg : o.guard = none) (it : Operand) (hop : o.op = Op.next it false) (r : Nat) (rst : List Ent)
    (hit : a.eval it = .pointer (some ⟨r, 0, none⟩)) (h : SayR w B r es rst)
    (hDone : rst = [] → wpList Tryz.prog ops Q rest (a.put o.dst (.tuple #[.bool false])) w)
    (hMore : ∀ (e : Ent) (rst' : List Ent) (w' : World), rst.Perm (e :: rst') → SayR w' B r es rst' → w'.rangeLeft B r < w.rangeLeft B r → w.grownBy w' (some r) → w'.heap.size = w.heap.size →
      (Instr.entry (.pointer (some ⟨r, 0, none⟩))).run Tryz.prog w' = .ok (.tuple #[.string ⟨e.name.toArray⟩, .agg #[.bool e.gone, .string ⟨(inN e).toArray⟩, .string ⟨e.text.toArray⟩, .int .i64 e.weight, .int .i64 e.tags]]) w' →
      wpList Tryz.prog ops Q rest (a.put o.dst (.tuple #[.bool true, .string ⟨e.name.toArray⟩, .agg #[.bool e.gone, .string ⟨(inN e).toArray⟩, .string ⟨e.text.toArray⟩, .int .i64 e.weight, .int .i64 e.tags]])) w') :
    wpList Tryz.prog ops Q (o :: rest) a w := by
  refine wpList_nextL w hg it hop Tryz.underlying9 r (rst.map sayP) hit h (fun h0 => hDone (by simpa using h0)) ?_
  intro p left' w' hp hr hlt hgr hsz hen
  obtain ⟨e, rst', rfl, h1, h2⟩ := part_of hp
  exact hMore e rst' w' h2 (hr.perm h1) hlt hgr hsz hen
end

theorem SayR.alloc {w : World} {B r : Nat} {es rst : List Ent} (h : SayR w B r es rst) (o : Obj) : SayR (w.alloc o) B r es rst := RangeL.kept h (World.grownBy_alloc w o none) (by simp) (by simp)
theorem left_alloc {w : World} {B r : Nat} {o : Obj} (hB : B < w.heap.size) (hr : r < w.heap.size) : (w.alloc o).rangeLeft B r = w.rangeLeft B r :=
  RangeL.left_stay (Below.heap_alloc _ _ _ hB) (Below.heap_alloc _ _ _ hr)
/-- What a range leaves alone. -/
theorem below_next {w0 w w' : World} {r : Nat} (h : Below w0.heap.size w0 w) (hg : w.grownBy w' (some r)) (hr : w0.heap.size ≤ r) : Below w0.heap.size w0 w' := h.grown hg h.size (fun k hk => by cases hk; exact hr)

def goneN (es : List Ent) : Nat := (es.filter fun e => e.gone).length
theorem goneN_snoc (es : List Ent) (e : Ent) : goneN (es ++ [e]) = goneN es + (if e.gone then 1 else 0) := by
  unfold goneN
  rw [List.filter_append, List.length_append]
  cases h : e.gone <;> simp [h]
theorem goneN_le (es : List Ent) : goneN es ≤ es.length := List.length_filter_le _ _
theorem goneN_perm {es fs : List Ent} (h : es.Perm fs) : goneN es = goneN fs := (h.filter _).length_eq
theorem perm_step {vis rst rst' es : List Ent} {e : Ent} (h : (vis ++ rst).Perm es) (hp : rst.Perm (e :: rst')) : ((vis ++ [e]) ++ rst').Perm es := by
  refine List.Perm.trans ?_ h
  rw [List.append_assoc]
  exact (List.Perm.refl vis).append hp.symm

set_option maxHeartbeats 1000000 in
set_option maxRecDepth 100000 in
theorem lgone_any (B : Nat) (es : List Ent) (w : World) (hs : SayM w B es) (hl : es.length < 1099511627776) :
    Calls Tryz.prog 70 #[.map (some B)] w fun en w' => en = .returned (.int .i64 (goneN es)) ∧ Below w.heap.size w w' := by
  have HS : Hid (SayM w B es) := hs
  have hBl := MapL.lt hs
  clear hs
  go_enter Tryz.func70, Tryz.ntmps70
  go_wp2_with (first | (at_range; refine wpList_rangeS _ rfl _ rfl rfl HS.out ?_; intro w0 hrg0 hg0 hs0))
  go_frame
  go_loopw [3] (fun g wr => ∃ (vis rst : List Ent), (vis ++ rst).Perm es ∧ g = .int .i64 (goneN vis) ∧ SayR wr B w.heap.size es rst ∧ Below w.heap.size w wr) (fun _ wr => wr.rangeLeft B w.heap.size)
  case atStart => exact ⟨[], es, List.Perm.refl _, rfl, hrg0, (Below.refl _ w).grown hg0 (Nat.le_refl _) (fun k hk => by cases hk)⟩
  case round =>
    obtain ⟨vis, rst, hperm, rfl, hr, hb⟩ := hrel
    have HP : Hid ((vis ++ rst).Perm es) := hperm
    have HR : Hid (SayR wr B w.heap.size es rst) := hr
    have HB : Hid (Below w.heap.size w wr) := hb
    have hvl : goneN vis ≤ es.length := by
      have h1 := goneN_le vis
      have h2 := hperm.length_eq
      rw [List.length_append] at h2
      omega
    clear hperm hr hb
    go_wp2_with (first | (at_next; refine wpList_nextS _ rfl _ rfl w.heap.size rst rfl HR.out ?_ ?_))
    · intro h0
      have HE : Hid (goneN vis = goneN es) := by
        show _ = _
        refine goneN_perm ?_
        have := HP.out
        rw [h0, List.append_nil] at this
        exact this
      clear h0
      go_wp2
      go_ret
      exact ⟨ret_int (by rw [HE.out]), HB.out⟩
    · intro e rst' w1 hp1 hr1 hlt1 hg1 hs1 hen
      have hR1 := RangeL.lt hr1
      have hB1 := MapL.lt (RangeL.owns hr1)
      have HB1 : Hid (Below w.heap.size w w1) := below_next HB.out hg1 (Nat.le_refl _)
      have HR1 : Hid (SayR w1 B w.heap.size es rst') := hr1
      have HL1 : Hid (w1.rangeLeft B w.heap.size < wr.rangeLeft B w.heap.size) := hlt1
      have HP1 : Hid (rst.Perm (e :: rst')) := hp1
      clear hp1 hr1 hlt1 hg1
      obtain ⟨nm, gn, tx, wt, tg⟩ := e
      cases gn with
      | false =>
        go_wp2
        go_roundw
        case rel =>
          refine ⟨vis ++ [⟨nm, false, tx, wt, tg⟩], rst', perm_step HP.out HP1.out, ?_, HR1.out.alloc _, HB1.out.alloc (Nat.le_trans HB.out.size (by rw [hs1]; exact Nat.le_refl _)) _⟩
          rw [goneN_snoc]
          simp
        case measure =>
          rw [left_alloc hB1 hR1]
          exact HL1.out
      | true =>
        go_wp2
        go_roundw
        case rel =>
          refine ⟨vis ++ [⟨nm, true, tx, wt, tg⟩], rst', perm_step HP.out HP1.out, ?_, HR1.out.alloc _, HB1.out.alloc (Nat.le_trans HB.out.size (by rw [hs1]; exact Nat.le_refl _)) _⟩
          rw [goneN_snoc]
          go_num
        case measure =>
          rw [left_alloc hB1 hR1]
          exact HL1.out

end Go.Proofs.YtocbogeoffeolaaGreatDoor

namespace Go.Proofs.YtocbogeoffeolaaGreatDoor
open Go.RowKit Go.Maps

theorem over_new {l : List Ent} {e : Ent} (h : e.name ∉ l.map Ent.name) : overL l [e] = l ++ [e] := by
  unfold overL
  rw [List.filter_eq_self.2]
  intro x hx
  rw [keeps_iff]
  simp only [names, List.map_cons, List.map_nil, List.mem_singleton]
  intro hn
  exact h (List.mem_map.2 ⟨x, hx, hn⟩)
theorem not_seen {vis rst rst' es : List Ent} {e : Ent} (hn : (es.map Ent.name).Nodup) (h : (vis ++ rst).Perm es) (hp : rst.Perm (e :: rst')) : e.name ∉ vis.map Ent.name := by
  have h1 := perm_step h hp
  have h2 : (((vis ++ [e]) ++ rst').map Ent.name).Nodup := (h1.map _).nodup_iff.2 hn
  rw [List.map_append, List.map_append, List.nodup_append] at h2
  have h3 := h2.1
  rw [List.nodup_append] at h3
  intro hm
  exact h3.2.2 _ hm e.name (by simp) rfl
theorem living_snoc (l : List Ent) (e : Ent) : livingL (l ++ [e]) = livingL l ++ (if e.gone then [] else [e]) := by
  unfold livingL
  rw [List.filter_append]
  cases h : e.gone <;> simp [h]
theorem living_names {l : List Ent} {x : Wd} (h : x ∉ l.map Ent.name) : x ∉ (livingL l).map Ent.name := by
  intro hm
  obtain ⟨e, he, rfl⟩ := List.mem_map.1 hm
  exact h (List.mem_map.2 ⟨e, (List.mem_filter.1 he).1, rfl⟩)

set_option maxHeartbeats 2000000 in
set_option maxRecDepth 100000 in
theorem without_any (B : Nat) (es : List Ent) (w : World) (hs : SayM w B es) (hl : es.length < 1099511627776) (hsh : ∀ e ∈ es, e.name.length ≤ maxLen) :
    Calls Tryz.prog 60 #[.map (some B)] w fun en w' => ∃ C, en = .returned (.map (some C)) ∧ w.heap.size ≤ C ∧ SayM w' C (livingL es) ∧ Below w.heap.size w w' := by
  have hmm := @run_makeMap Tryz.prog
  have hnd := hs.nodup
  obtain ⟨w0, hw0⟩ : ∃ w0, w.alloc (.map #[] 0) = w0 := ⟨_, rfl⟩
  have hz0 : w0.heap.size = w.heap.size + 1 := by rw [← hw0]; simp
  have hb0 : Below w.heap.size w w0 := by rw [← hw0]; exact (Below.refl _ _).alloc (Nat.le_refl _) _
  have hM0 : SayM w0 w.heap.size [] := by rw [← hw0]; exact MapL.made w
  have HS : Hid (SayM w0 B es) := MapL.below hs hb0
  have HND : Hid ((es.map Ent.name).Nodup) := hnd
  have HSH : Hid (∀ e ∈ es, e.name.length ≤ maxLen) := hsh
  have hBl := MapL.lt hs
  clear hs hnd hsh
  go_enter Tryz.func60, Tryz.ntmps60
  go_wp2_with (first | (at_range; refine wpList_rangeS _ rfl _ rfl rfl HS.out ?_; intro w1 hrg0 hg0 hs0))
  rw [hz0] at hrg0 hs0 ⊢
  go_frame
  go_loopw [4] (fun _ wr => ∃ (vis rst : List Ent), (vis ++ rst).Perm es ∧ SayR wr B (w.heap.size + 1) es rst ∧ SayM wr w.heap.size (livingL vis) ∧ Below w.heap.size w wr) (fun _ wr => wr.rangeLeft B (w.heap.size + 1))
  case atStart => exact ⟨[], es, List.Perm.refl _, hrg0, MapL.kept hM0 hg0 (by simp), hb0.grown hg0 hb0.size (fun k hk => by cases hk)⟩
  case round =>
    obtain ⟨vis, rst, hperm, hr, hm, hb⟩ := hrel
    have HP : Hid ((vis ++ rst).Perm es) := hperm
    have HR : Hid (SayR wr B (w.heap.size + 1) es rst) := hr
    have HM : Hid (SayM wr w.heap.size (livingL vis)) := hm
    have HB : Hid (Below w.heap.size w wr) := hb
    have hvl : (livingL vis).length ≤ es.length := by
      have h1 := living_le vis
      have h2 := hperm.length_eq
      rw [List.length_append] at h2
      omega
    clear hperm hr hb hm
    go_wp2_with (first | (at_next; refine wpList_nextS _ rfl _ rfl (w.heap.size + 1) rst rfl HR.out ?_ ?_))
    · intro h0
      have HE : Hid (vis.Perm es) := by
        show List.Perm _ _
        have := HP.out
        rw [h0, List.append_nil] at this
        exact this
      clear h0
      go_wp2
      go_ret
      exact ⟨_, rfl, Nat.le_refl _, HM.out.perm (living_perm HE.out), HB.out⟩
    · intro e rst' w2 hp1 hr1 hlt1 hg1 hs1 hen
      have hR1 := RangeL.lt hr1
      have hB1 := MapL.lt (RangeL.owns hr1)
      have HB1 : Hid (Below w.heap.size w w2) := below_next HB.out hg1 (by omega)
      have HR1 : Hid (SayR w2 B (w.heap.size + 1) es rst') := hr1
      have HL1 : Hid (w2.rangeLeft B (w.heap.size + 1) < wr.rangeLeft B (w.heap.size + 1)) := hlt1
      have HP1 : Hid (rst.Perm (e :: rst')) := hp1
      have HM1 : Hid (SayM w2 w.heap.size (livingL vis)) := MapL.kept HM.out hg1 (by simp)
      have hnl : e.name.length ≤ maxLen := HSH.out e (HP.out.mem_iff.1 (List.mem_append_right _ (hp1.mem_iff.2 (List.mem_cons_self ..))))
      have hnot := not_seen HND.out HP.out hp1
      have hput := put_over (livingL vis) e (.agg #[.bool e.gone, .string ⟨(inN e).toArray⟩, .string ⟨e.text.toArray⟩, .int .i64 e.weight, .int .i64 e.tags]) rfl
      rw [over_new (living_names hnot)] at hput
      have hls := living_snoc vis e
      clear hp1 hr1 hlt1 hg1 hnot
      obtain ⟨nm, gn, tx, wt, tg⟩ := e
      cases gn with
      | true =>
        have HLS : Hid (livingL (vis ++ [⟨nm, true, tx, wt, tg⟩]) = livingL vis) := by show _ = _; rw [hls]; simp
        clear hls hput
        go_wp2
        go_roundw
        case rel =>
          exact ⟨vis ++ [⟨nm, true, tx, wt, tg⟩], rst', perm_step HP.out HP1.out, HR1.out.alloc _, by rw [HLS.out]; exact MapL.kept HM1.out (World.grownBy_alloc _ _ none) (by simp), HB1.out.alloc (Nat.le_trans HB.out.size (by rw [hs1]; exact Nat.le_refl _)) _⟩
        case measure =>
          rw [left_alloc hB1 hR1]
          exact HL1.out
      | false =>
        have HLS : Hid (livingL (vis ++ [⟨nm, false, tx, wt, tg⟩]) = livingL vis ++ [⟨nm, false, tx, wt, tg⟩]) := by show _ = _; rw [hls]; simp
        have HPUT : Hid (putP ((livingL vis).map sayP) nm (.agg #[.bool false, .string ⟨(inN (⟨nm, false, tx, wt, tg⟩ : Ent)).toArray⟩, .string ⟨tx.toArray⟩, .int .i64 wt, .int .i64 tg]) = (livingL vis ++ [(⟨nm, false, tx, wt, tg⟩ : Ent)]).map sayP) := hput
        clear hls hput
        have hMA := fun o : Obj => MapL.kept HM1.out (World.grownBy_alloc w2 o none) (by simp)
        have HMA : Hid (∀ o : Obj, MapL Tryz.prog 9 (w2.alloc o) w.heap.size ((livingL vis).map sayP)) := hMA
        clear hMA
        go_wp2_with (first | (at_mapUpdate; refine wpList_putL _ rfl _ _ _ 85 rfl 111 Tryz.underlying9 Tryz.underlying85 rfl (HMA.out _) (by rw [List.length_map]; unfold maxLen; omega) nm hnl rfl (.agg #[.bool false, .string ⟨(inN (⟨nm, false, tx, wt, tg⟩ : Ent)).toArray⟩, .string ⟨tx.toArray⟩, .int .i64 wt, .int .i64 tg]) rfl ?_; intro w3 hm3 hg3 hs3))
        have hzw : w.heap.size ≤ w2.heap.size := HB1.out.size
        refine ⟨⟨vis ++ [⟨nm, false, tx, wt, tg⟩], rst', perm_step HP.out HP1.out, RangeL.kept (HR1.out.alloc _) hg3 (by simp; omega) (by simp), ?_, (HB1.out.alloc hzw _).grown hg3 (by simp; omega) (fun k hk => by cases hk; exact Nat.le_refl _)⟩, ?_⟩
        · rw [HLS.out]
          unfold SayM
          rw [← HPUT.out]
          exact hm3
        · rw [RangeL.left_stay (hg3.block B (by simp; omega) (by simp; omega)) (hg3.block (w.heap.size + 1) (by simp; omega) (by simp)), left_alloc hB1 hR1]
          exact HL1.out

set_option maxHeartbeats 2000000 in
set_option maxRecDepth 100000 in
theorem copy_any (B C : Nat) (ds es : List Ent) (w : World) (hd : SayM w B ds) (hs : SayM w C es) (hne : B ≠ C) (hl : es.length < 549755813888) (hl2 : ds.length < 549755813888) (hsh : ∀ e ∈ es, e.name.length ≤ maxLen) :
    Calls Tryz.prog 89 #[.map (some B), .map (some C)] w fun en w' => en = .returned (.tuple #[]) ∧ SayM w' B (overL ds es) ∧ FrameF (· = B) w w' := by
  have hnd := hs.nodup
  have HS : Hid (SayM w C es) := hs
  have HD : Hid (SayM w B ds) := hd
  have HND : Hid ((es.map Ent.name).Nodup) := hnd
  have HSH : Hid (∀ e ∈ es, e.name.length ≤ maxLen) := hsh
  have hBl := MapL.lt hd
  have hCl := MapL.lt hs
  clear hs hd hnd hsh
  go_enter Tryz.func89, Tryz.ntmps89
  go_wp2_with (first | (at_range; refine wpList_rangeS _ rfl _ rfl rfl HS.out ?_; intro w1 hrg0 hg0 hs0))
  go_frame
  go_loopw [4] (fun _ wr => ∃ (vis rst : List Ent), (vis ++ rst).Perm es ∧ SayR wr C w.heap.size es rst ∧ SayM wr B (overL ds vis) ∧ FrameF (· = B) w wr) (fun _ wr => wr.rangeLeft C w.heap.size)
  case atStart => exact ⟨[], es, List.Perm.refl _, hrg0, by rw [over_nil']; exact MapL.kept HD.out hg0 (by simp), ⟨hg0.os, hg0.tape, hg0.output, hg0.size, fun k hk _ => hg0.block k hk (by simp)⟩⟩
  case round =>
    obtain ⟨vis, rst, hperm, hr, hm, hb⟩ := hrel
    have HP : Hid ((vis ++ rst).Perm es) := hperm
    have HR : Hid (SayR wr C w.heap.size es rst) := hr
    have HM : Hid (SayM wr B (overL ds vis)) := hm
    have HB : Hid (FrameF (· = B) w wr) := hb
    have hvl : (overL ds vis).length ≤ 1099511627775 := by
      have h1 := overL_len ds vis
      have h2 := hperm.length_eq
      rw [List.length_append] at h2
      omega
    clear hperm hr hb hm
    go_wp2_with (first | (at_next; refine wpList_nextS _ rfl _ rfl w.heap.size rst rfl HR.out ?_ ?_))
    · intro h0
      have HE : Hid (vis.Perm es) := by
        show List.Perm _ _
        have := HP.out
        rw [h0, List.append_nil] at this
        exact this
      clear h0
      go_wp2
      go_end0
      exact ⟨rfl, HM.out.perm (over_perm (List.Perm.refl _) HE.out), HB.out⟩
    · intro e rst' w2 hp1 hr1 hlt1 hg1 hs1 hen
      have hR1 := RangeL.lt hr1
      have hB1 := MapL.lt (RangeL.owns hr1)
      have hzw := HB.out.size
      have HB1 : Hid (FrameF (· = B) w w2) := HB.out.trans (FrameF.of_grown hg1) (fun i hi hg => by omega)
      have HR1 : Hid (SayR w2 C w.heap.size es rst') := hr1
      have HL1 : Hid (w2.rangeLeft C w.heap.size < wr.rangeLeft C w.heap.size) := hlt1
      have HP1 : Hid (rst.Perm (e :: rst')) := hp1
      have HM1 : Hid (SayM w2 B (overL ds vis)) := MapL.kept HM.out hg1 (by simp; omega)
      have hnl : e.name.length ≤ maxLen := HSH.out e (HP.out.mem_iff.1 (List.mem_append_right _ (hp1.mem_iff.2 (List.mem_cons_self ..))))
      have hnot := not_seen HND.out HP.out hp1
      have hput := put_over (overL ds vis) e (.agg #[.bool e.gone, .string ⟨(inN e).toArray⟩, .string ⟨e.text.toArray⟩, .int .i64 e.weight, .int .i64 e.tags]) rfl
      rw [over_assoc, over_new hnot] at hput
      have HPUT : Hid (putP ((overL ds vis).map sayP) e.name (.agg #[.bool e.gone, .string ⟨(inN e).toArray⟩, .string ⟨e.text.toArray⟩, .int .i64 e.weight, .int .i64 e.tags]) = (overL ds (vis ++ [e])).map sayP) := hput
      have HMA : Hid (∀ o : Obj, MapL Tryz.prog 9 (w2.alloc o) B ((overL ds vis).map sayP)) := fun o => MapL.kept HM1.out (World.grownBy_alloc w2 o none) (by simp)
      clear hp1 hr1 hlt1 hg1 hnot hput
      go_wp2_with (first | (at_mapUpdate; refine wpList_putL _ rfl _ _ _ 85 rfl 111 Tryz.underlying9 Tryz.underlying85 rfl (HMA.out _) (by rw [List.length_map]; unfold maxLen; omega) e.name hnl rfl (.agg #[.bool e.gone, .string ⟨(inN e).toArray⟩, .string ⟨e.text.toArray⟩, .int .i64 e.weight, .int .i64 e.tags]) rfl ?_; intro w3 hm3 hg3 hs3))
      have hBl2 := MapL.lt HM1.out
      refine ⟨⟨_, _, _, _, _, _, _, _, _, _, ⟨vis ++ [e], rst', perm_step HP.out HP1.out, RangeL.kept (HR1.out.alloc _) hg3 (by simp; omega) (by simp; omega), ?_, (HB1.out.then (FrameF.of_below ((Below.refl _ _).alloc (Nat.le_refl _) _))).then (FrameF.of_grown hg3)⟩, rfl⟩, ?_⟩
      · unfold SayM
        rw [← HPUT.out]
        exact hm3
      · rw [RangeL.left_stay (hg3.block C (by simp; omega) (by simp; omega)) (hg3.block w.heap.size (by simp; omega) (by simp; omega)), left_alloc hB1 hR1]
        exact HL1.out

end Go.Proofs.YtocbogeoffeolaaGreatDoor

