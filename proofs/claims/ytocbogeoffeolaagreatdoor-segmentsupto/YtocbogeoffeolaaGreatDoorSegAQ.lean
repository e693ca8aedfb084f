/-
  WALKS: the document's own answer: Pack, Dump. (Made by wip/mkpack.py.)
  hintlaw's edits and packs, over two sides that do as the plain mathematics say. (Made by wip/mkG2.py.)
  hintlaw's packs: Segments, Dump, Load. (Made by wip/mkG2.py.)
  hintlaw's step over edits and packs; and plays: a whole script, whatever its steps are, if each is as the document says. (Made by wip/mkG4.py.)
  hintlaw's plays: a whole script, whatever its kinds, if each step is as the document says.
  THE ARGUMENT OPENED: a script whose Ops hold entries: texts, numbers and entries, by their bulk.
-/
import Derived.Test.YtocbogeoffeolaaGreatDoorSegAB
import Derived.Test.YtocbogeoffeolaaGreatDoorSegAF
import Derived.Test.YtocbogeoffeolaaGreatDoorSegAN
import Derived.Test.YtocbogeoffeolaaGreatDoorSegAP
namespace Go.Proofs.YtocbogeoffeolaaGreatDoor
open Go.RowKit

def gonP (l : List Ent) (k : Nat) : List Ent := (l.take k).filter fun e => e.gone
theorem gonP_yes {l : List Ent} {k : Nat} (h : k < l.length) (hg : l[k].gone = true) : gonP l (k + 1) = gonP l k ++ [l[k]] := by
  unfold gonP; rw [List.take_succ_eq_append_getElem h, List.filter_append]; simp [hg]
theorem gonP_no {l : List Ent} {k : Nat} (h : k < l.length) (hg : l[k].gone = false) : gonP l (k + 1) = gonP l k := by
  unfold gonP; rw [List.take_succ_eq_append_getElem h, List.filter_append]; simp [hg]
theorem gonP_len (l : List Ent) (k : Nat) : (gonP l k).length ≤ k := by
  unfold gonP
  have := List.length_filter_le (fun e : Ent => e.gone) (l.take k)
  simp at this ⊢; omega
theorem gonP_bytes (m : List Ent) (h : ∀ e ∈ m, rawOk e) : (m.flatMap fun e => pieceL e.name).length ≤ m.length * 1048577 := by
  induction m with
  | nil => simp
  | cons e m ih =>
    have h1 := (h e (by simp)).1
    have h2 := ih (fun x hx => h x (by simp [hx]))
    rw [List.flatMap_cons, List.length_append, List.length_cons]
    have h3 : (pieceL e.name).length = e.name.length + 1 := by simp [pieceL]
    omega
theorem gonP_size {l : List Ent} {k : Nat} {ob : ByteArray} (h : ∀ e ∈ l, rawOk e) (ho : ob.data.toList = (gonP l k).flatMap fun e => pieceL e.name) : ob.size ≤ k * 1048577 := by
  have h1 := gonP_bytes (gonP l k) (fun e he => h e (List.mem_of_mem_take (List.mem_filter.1 he).1))
  have h2 := gonP_len l k
  have h3 := congrArg List.length ho
  have h4 : ob.data.toList.length = ob.size := by simp
  have := Nat.mul_le_mul_right 1048577 h2
  omega
theorem key_sum (l : List Ent) : ∀ e ∈ l, e.text.length ≤ (l.map fun e => e.text.length).sum := by
  induction l with
  | nil => intro e he; simp at he
  | cons x l ih =>
    intro e he
    rw [List.map_cons, List.sum_cons]
    rcases List.mem_cons.1 he with rfl | h
    · omega
    · have := ih e h; omega

set_option maxHeartbeats 4000000 in
set_option maxRecDepth 100000 in
theorem refPack (v : Value) (l : List Ent) (w : World) (hv : RdW w 5 v l.length (entVals l)) (hr : ∀ e ∈ l, rawOk e) (hlen : l.length ≤ 1048576) (hsum : (l.map fun e => e.text.length).sum ≤ 1048576) :
    Calls Tryz.prog 109 #[v] w fun e w' => e = .returned (.string ⟨(packR l).toArray⟩) ∧ Below w.heap.size w w' := by
  have HT : Hid (∀ e ∈ sortN l, rawOk e) := fun e he => hr e (sortN_mem.1 he)
  have hslen : (sortN l).length ≤ 1048576 := by rw [sortN_len]; exact hlen
  have HKY : Hid (∀ e ∈ livingL (sortN l), (keyE e).length ≤ (packF l - 1) + (⟨#[]⟩ : ByteArray).size) := fun e he => by
    have h1 := key_sum l e (sortN_mem.1 (List.mem_filter.1 he).1)
    unfold packF keyE
    rw [foldL_length]
    show _ ≤ _ + 0
    omega
  have hpf : packF l - 1 ≤ 2097152 ∧ packF l - 1 + 1 = packF l := by unfold packF; omega
  obtain ⟨a, cap, rfl, hc, hm, _, _⟩ := id hv
  have hby := byNames_any _ l w hv (by omega)
  have HPF : Hid (packF l - 1 ≤ 2097152 ∧ packF l - 1 + 1 = packF l) := hpf
  clear hv hr hpf hsum
  unfold maxLen at hm
  go_enter Tryz.func109, Tryz.ntmps109
  go_wp2_with fail
  refine hby.mono ?_
  rintro e w1 ⟨u, rfl, ho1, hb1⟩
  have hz1 := hb1.size
  obtain ⟨sl, hsl⟩ : ∃ sl, sl = sortN l := ⟨_, rfl⟩
  rw [← hsl] at ho1 hslen HT HKY
  have HSL : Hid (sl = sortN l) := hsl
  clear hsl hby
  obtain ⟨a2, c2, rfl, hc2⟩ := owns_slice_wide ho1
  have HV : Hid (RdW w1 5 (.slice a2 sl.length c2) sl.length (entVals sl)) := RdW.of_owns ho1
  have HB1 : Hid (Below w.heap.size w w1) := hb1
  clear ho1 hb1
  go_wp2
  go_loopw [4, 5, 6] (fun sv nv iv wr => ∃ (k : Nat) (ob : ByteArray), k ≤ sl.length ∧ iv = .int .i64 k ∧ sv = .string ob ∧ ob.data.toList = ((gonP sl k).flatMap fun e => pieceL e.name) ∧ nv = .int .i64 (gonP sl k).length ∧ Below w1.heap.size w1 wr) (fun _ _ i _ => sl.length - (intOf i).toNat)
  case atStart => exact ⟨0, ⟨#[]⟩, Nat.zero_le _, rfl, rfl, rfl, rfl, Below.refl _ _⟩
  case round =>
    obtain ⟨k, ob, hk, rfl, rfl, hob, rfl, hbel⟩ := hrel
    have HO : Hid (ob.data.toList = ((gonP sl k).flatMap fun e => pieceL e.name)) := hob
    have hobs : ob.size ≤ k * 1048577 := gonP_size HT.out hob
    have hgl := gonP_len sl k
    have HS := hbel.size
    clear hob
    by_cases hlt : k < sl.length
    · obtain ⟨b, off, rfl, c0, c1, c2', c3, c4⟩ := ent_cells (HV.out.below hbel) k hlt
      have hki : (k : Int) < (sl.length : Int) := by omega
      cases hg : sl[k].gone with
      | false =>
        have HX : Hid (gonP sl (k + 1) = gonP sl k) := gonP_no hlt hg
        rw [hg] at c1
        clear hg
        go_wp2
        go_roundw
        case rel => exact ⟨k + 1, ob, by omega, by go_num, rfl, by rw [HX.out]; exact HO.out, by rw [HX.out], hbel⟩
        case measure => simp [intOf]; omega
      | true =>
        have HX : Hid (gonP sl (k + 1) = gonP sl k ++ [sl[k]]) := gonP_yes hlt hg
        obtain ⟨P1, g1, C1⟩ := piece_let sl[k].name (HT.out sl[k] (List.getElem_mem hlt)).1
        have HG : Hid (P1.data.toList = pieceL sl[k].name) := g1.1
        have p1 := g1.2
        have hq1 : ¬ (9223372036854775807 < ob.size + P1.size) := by omega
        rw [hg] at c1
        clear hg g1
        have HC1 : Hid (∀ w : World, Calls Tryz.prog 149 #[.string ⟨sl[k].name.toArray⟩] w fun e w' => e = .returned (.string P1) ∧ Ext w w') := C1
        clear C1
        go_wp2_with fail
        refine (HC1.out wr).mono ?_
        rintro e w3 ⟨rfl, hb3⟩
        have HB3 : Hid (Below w1.heap.size w1 w3) := hbel.trans (Below.mono hb3 HS)
        clear hb3 hbel
        go_wp2
        go_roundw
        case rel =>
          refine ⟨k + 1, ob ++ P1, by omega, by go_num, rfl, ?_, ?_, HB3.out⟩
          · rw [HX.out, List.flatMap_append, ByteArray.data_append, Array.toList_append, HO.out, HG.out]; simp
          · rw [HX.out, List.length_append]; go_num
        case measure => simp [intOf]; omega
    · have hke : k = sl.length := by omega
      subst hke
      have hgn : gonP sl sl.length = sl.filter fun e => e.gone := by unfold gonP; rw [List.take_length]
      rw [hgn] at HO hgl ⊢
      clear hgn hlt hk
      have hli := living_any (.slice a2 sl.length c2) sl wr (HV.out.below hbel) (by omega)
      have HBL : Hid (Below w.heap.size w wr) := HB1.out.trans (hbel.mono hz1)
      have hz := hbel.size
      clear hbel
      go_wp2_with fail
      refine hli.mono ?_
      rintro e w4 ⟨u4, rfl, ho4, hb4⟩
      have HB4 : Hid (Below w.heap.size w w4) := HBL.out.trans (hb4.mono (by omega))
      obtain ⟨a4, c4, rfl, hc4⟩ := owns_slice_wide ho4
      have hll : (livingL sl).length ≤ sl.length := List.length_filter_le _ _
      have hno := fun (y : World) (hy : Ext w4 y) => node_any (livingL sl) (fun e he => HT.out e (List.mem_filter.1 he).1) (by omega) (packF l - 1) ⟨#[]⟩ ⟨#[]⟩ (.slice a4 (livingL sl).length c4) y HPF.out.1 ((RdW.of_owns ho4).below hy) HKY.out (Nat.le_refl _) (by show 0 ≤ _; omega)
      obtain ⟨P2, hP2⟩ : ∃ P2 : ByteArray, P2 = ⟨(nodeL (packF l) (livingL sl) [] []).toArray⟩ := ⟨_, rfl⟩
      have HNO : Hid (∀ y : World, Ext w4 y → Calls Tryz.prog 150 #[.slice a4 (livingL sl).length c4, .string ⟨#[]⟩, .string ⟨#[]⟩] y fun e w' => e = .returned (.string P2) ∧ Ext y w') := fun y hy => by
        have h := hno y hy
        rw [HPF.out.2] at h
        rw [hP2]
        exact h
      have hP2s : P2.size ≤ 7000000000000000000 := by
        have h := node_len (packF l) (livingL sl) [] [] (fun e he => HT.out e (List.mem_filter.1 he).1)
        have h4 : packF l * ((livingL sl).length * 3145743) ≤ 2097153 * (1048576 * 3145743) := Nat.mul_le_mul (by have := HPF.out; omega) (Nat.mul_le_mul_right _ (by omega))
        have h5 : P2.size = (nodeL (packF l) (livingL sl) [] []).length := by rw [hP2]; rfl
        simp only [List.length_nil] at h
        omega
      have FIN : Hid (⟨#[u8 (sl.filter fun e => e.gone).length]⟩ ++ ob ++ P2 = (⟨(packR l).toArray⟩ : ByteArray)) := by
        show _ = _
        rw [hP2]
        apply ByteArray.ext
        apply Array.toList_inj.1
        unfold packR
        rw [← HSL.out]
        simp only [ByteArray.data_append, Array.toList_append, HO.out, List.cons_append, List.nil_append, livingL]
      have f2 : ((⟨#[u8 (sl.filter fun e => e.gone).length]⟩ : ByteArray) ++ ob).size = 1 + ob.size := by rw [ByteArray.size_append]; rfl
      have hq1 : ¬ (9223372036854775807 < 1 + ob.size) := by omega
      have hq2 : ¬ (9223372036854775807 < 1 + ob.size + P2.size) := by omega
      clear hno hP2 ho4 hb4 hli
      go_wp2_with fail
      refine wp_region_X (by kernel_rfl) ?_
      refine WX_take (i := 0) (v := ?_) rfl (by kernel_rfl) (by kernel_rfl) (by kernel_rfl) (stable_ext _) (by rfl) ?_ ?_
      rotate_left
      · intro y hy; unfold jAt; go_simp; refine ⟨Ext.refl _, ?_⟩; with_reducible rfl
      refine WX_take (i := 1) (v := ?_) rfl (by kernel_rfl) (by kernel_rfl) (by kernel_rfl) (stable_ext _) (by rfl) ?_ ?_
      rotate_left
      · intro y hy; unfold jAt; go_simp; refine ⟨Ext.refl _, ?_⟩; with_reducible rfl
      refine WX_take (i := 4) (v := ?_) rfl (by kernel_rfl) (by kernel_rfl) (by kernel_rfl) (stable_ext _) (by rfl) ?_ ?_
      rotate_left
      · intro y hy; unfold jAt; go_simp; refine ⟨Ext.refl _, ?_⟩; with_reducible rfl
      refine WX_take (i := 6) (v := ?_) rfl (by kernel_rfl) (by kernel_rfl) (by kernel_rfl) (stable_ext _) (by rfl) ?_ ?_
      rotate_left
      · intro y hy; unfold jAt; go_simp; refine ⟨Ext.refl _, ?_⟩; with_reducible rfl
      refine WX_take (i := 7) (v := ?_) rfl (by kernel_rfl) (by kernel_rfl) (by kernel_rfl) (stable_ext _) (by rfl) ?_ ?_
      rotate_left
      · intro y hy; unfold jAt; go_simp; refine ⟨rfl, (HNO.out y hy).mono ?_⟩; rintro e y2 ⟨rfl, h2⟩; refine ⟨_, rfl, h2, ?_⟩; with_reducible rfl
      refine WX_all (rs := [2]) (by kernel_rfl) (by simp) ?_
      intro i hi
      simp only [List.mem_singleton] at hi
      subst hi
      refine JOp_new (fun g => (.slice (some ⟨g, 0, none⟩) 1 1 : Value)) (fun g y => y.cell? ⟨g, 0, none⟩ = some (.int .u8 (IntKind.u8.wrap ((sl.filter fun e => e.gone).length : Int)))) rfl (stable_ext _) (fun g => (stable_cell _ _)) (by rfl) ?_ ?_
      · intro y hy; unfold jAt; go_simp; exact ⟨Ext.alloc _ _, rfl, by rw [World.cell?_alloc_at _ _ _ _ rfl]; rfl⟩
      intro g
      refine WX_take (i := 3) (v := ?_) rfl (by kernel_rfl) (by kernel_rfl) (by kernel_rfl) ((stable_ext _).and (stable_cell _ _)) (by rfl) ?_ ?_
      rotate_left
      · intro y hy; have q := conv_one' hy.2; unfold jAt; go_simp; refine ⟨Ext.refl _, ?_⟩; with_reducible rfl
      refine WX_take (i := 5) (v := ?_) rfl (by kernel_rfl) (by kernel_rfl) (by kernel_rfl) ((stable_ext _).and (stable_cell _ _)) (by rfl) ?_ ?_
      rotate_left
      · intro y hy; unfold jAt; go_simp; refine ⟨Ext.refl _, ?_⟩; with_reducible rfl
      refine WX_take (i := 8) (v := ?_) rfl (by kernel_rfl) (by kernel_rfl) (by kernel_rfl) ((stable_ext _).and (stable_cell _ _)) (by rfl) ?_ ?_
      rotate_left
      · intro y hy; unfold jAt; go_simp; refine ⟨Ext.refl _, ?_⟩; with_reducible rfl
      refine WX_take (i := 9) (v := ?_) rfl (by kernel_rfl) (by kernel_rfl) (by kernel_rfl) ((stable_ext _).and (stable_cell _ _)) (by rfl) ?_ ?_
      rotate_left
      · intro y hy; unfold jAt; go_simp; refine ⟨Ext.refl _, ?_⟩; with_reducible rfl
      refine WX_done (by kernel_rfl) ?_ _
      intro y hy
      have HBy : Hid (Ext w4 y) := hy.1
      clear hy
      go_simp
      go_wp2
      go_ret
      refine ⟨ret_str ?_, HB4.out.trans (Below.mono HBy.out HB4.out.size)⟩
      exact FIN.out

end Go.Proofs.YtocbogeoffeolaaGreatDoor

namespace Go.Proofs.YtocbogeoffeolaaGreatDoor
open Go.RowKit

/-- A state: the buffer, the segments, the texts that were observed. -/
abbrev St := List Ent × List (List Ent) × List (List Wd)
/-- How a call that may change the engine ends. -/
def TurnsG (q : World → (Nat → Prop) → Nat → St → Prop) (w : World) (F : Nat → Prop) (b : Nat) (code : Nat) (s' : St) (e : Ending) (w' : World) : Prop :=
  e = .returned (.int .i64 code) ∧ ∃ F' : Nat → Prop, q w' F' b s' ∧ (∀ k, F' k → F k ∨ w.heap.size ≤ k) ∧ FrameF F w w'
/-- What is asked of one side's calls over entries; fu .. fp: the numbers of its functions. -/
structure EntsOK (fu fd ff fm fl fp : Nat) (q : World → (Nat → Prop) → Nat → St → Prop) : Prop where
  upsert : ∀ (w : World) (F : Nat → Prop) (b : Nat) (s : St) (name text : ByteArray) (weight tags : Int), q w F b s → name.size ≤ maxLen → text.size ≤ maxLen →
    Calls Tryz.prog fu #[.pointer (some ⟨b, 0, none⟩), .string name, .string text, .int .i64 weight, .int .i64 tags] w (TurnsG q w F b (upsL s.1 s.2.1 name.data.toList text.data.toList weight tags).1 ((upsL s.1 s.2.1 name.data.toList text.data.toList weight tags).2, s.2))
  delete : ∀ (w : World) (F : Nat → Prop) (b : Nat) (s : St) (name : ByteArray), q w F b s → name.size ≤ maxLen →
    Calls Tryz.prog fd #[.pointer (some ⟨b, 0, none⟩), .string name] w (TurnsG q w F b (delL s.1 s.2.1 name.data.toList).1 ((delL s.1 s.2.1 name.data.toList).2, s.2))
  flush : ∀ (w : World) (F : Nat → Prop) (b : Nat) (s : St), q w F b s →
    Calls Tryz.prog ff #[.pointer (some ⟨b, 0, none⟩)] w (TurnsG q w F b (flushL s.1 s.2.1).1 ((flushL s.1 s.2.1).2.1, (flushL s.1 s.2.1).2.2, s.2.2))
  merge : ∀ (w : World) (F : Nat → Prop) (b : Nat) (s : St) (n : Int), q w F b s → -9223372036854775808 ≤ n → n ≤ 9223372036854775807 →
    Calls Tryz.prog fm #[.pointer (some ⟨b, 0, none⟩), .int .i64 n] w (TurnsG q w F b (mergeL s.2.1 n).1 (s.1, (mergeL s.2.1 n).2, s.2.2))
  load : ∀ (w : World) (F : Nat → Prop) (b : Nat) (s : St) (packed : ByteArray), q w F b s → packed.size ≤ maxLen →
    Calls Tryz.prog fl #[.pointer (some ⟨b, 0, none⟩), .string packed] w (TurnsG q w F b (loadL s.1 s.2.1 packed.data.toList).1 (s.1, (loadL s.1 s.2.1 packed.data.toList).2, s.2.2))
  dump : ∀ (w : World) (F : Nat → Prop) (b : Nat) (s : St) (n : Int), q w F b s → -9223372036854775808 ≤ n → n ≤ 9223372036854775807 →
    Calls Tryz.prog fp #[.pointer (some ⟨b, 0, none⟩), .int .i64 n] w fun e w' => e = .returned (.tuple #[.string ⟨(dumpL s.2.1 n).1.toArray⟩, .int .i64 (dumpL s.2.1 n).2]) ∧ Below w.heap.size w w'
/-- Both sides. -/
structure BothE (q r : World → (Nat → Prop) → Nat → St → Prop) : Prop where
  x : EntsOK 38 37 29 39 25 26 q
  y : EntsOK 103 105 106 107 110 108 r
  segments : ∀ (w : World) (F : Nat → Prop) (b : Nat) (s : St), q w F b s →
    Calls Tryz.prog 30 #[.pointer (some ⟨b, 0, none⟩)] w fun e w' => e = .returned (.int .i64 s.2.1.length) ∧ w = w'
  row : ∀ {w : World} {F : Nat → Prop} {b : Nat} {s : St}, r w F b s → ∃ a c, w.cell? ⟨b, 1, none⟩ = some (.slice a s.2.1.length c)

/-- Entries that an Op holds, as data. -/
def LOk (w : World) (v : Value) : Prop := ∃ lE : List Ent, RdW w 5 v lE.length (entVals lE) ∧ (∀ e ∈ lE, rawOk e) ∧ lE.length ≤ 1048576 ∧ (lE.map fun e => e.text.length).sum ≤ 1048576
theorem LOk.below {w w' : World} {v : Value} (h : LOk w v) (hb : Below w.heap.size w w') : LOk w' v := by
  obtain ⟨l, h1, h2⟩ := h
  exact ⟨l, h1.below hb, h2⟩

section
variable {q r : World → (Nat → Prop) → Nat → St → Prop} {s0 : St}
/-- Behind a call of both. -/
theorem after_both (hp : ProgN q r s0) {w w0 w1 w2 : World} {Fx Fy D : Nat → Prop} {B bx byy last : Nat} {va vl vm : Value} {us : List Value} {ms : List Wd} {s s' : St} {Fx1 Fy2 : Nat → Prop} (hb : BeforeG q r w Fx Fy D B bx byy va vl vm last us ms s) (h0 : Below w.heap.size w w0)
    (hx1 : q w1 Fx1 bx s') (hFx1 : ∀ k, Fx1 k → Fx k ∨ w0.heap.size ≤ k) (hf1 : FrameF Fx w0 w1) (hy2 : r w2 Fy2 byy s') (hFy2 : ∀ k, Fy2 k → Fy k ∨ w1.heap.size ≤ k) (hf2 : FrameF Fy w1 w2) :
    AfterG q r w w2 Fx Fy D B bx byy va vl vm last us s' last :=
  after_turn hp hb.heap hb.lists hb.len hb.x hb.fy hb.apart h0 hx1 hFx1 hf1 hy2 hFy2 hf2

set_option maxHeartbeats 2000000 in
set_option maxRecDepth 100000 in
theorem edits_ups (hp : ProgN q r s0) (hE : BothE q r) (w : World) (Fx Fy D : Nat → Prop) (B bx byy : Nat) (va vl vm : Value) (last : Nat) (us : List Value) (ms : List Wd) (s : St) (W N M K : Int) (S T : ByteArray) (aL : Option Addr) (nL cL : Nat) (made : Bool)
    (hb : BeforeG q r w Fx Fy D B bx byy va vl vm last us ms s) (hS : S.size ≤ maxLen) (hT : T.size ≤ maxLen) (hN0 : -9223372036854775808 ≤ N) (hN1 : N ≤ 9223372036854775807) :
    Calls Tryz.prog 76 #[.agg #[.pointer (some ⟨bx, 0, none⟩), .pointer (some ⟨byy, 0, none⟩)], .agg (opV 2 W N M K S T (.slice aL nL cL) made)] w fun e w' => e = .returned (.bool true) ∧ ∃ s' : St, s'.2.2 = s.2.2 ∧ AfterG q r w w' Fx Fy D B bx byy va vl vm last us s' last := by
  unfold opV
  have HB : Hid (BeforeG q r w Fx Fy D B bx byy va vl vm last us ms s) := hb
  have HP : Hid (ProgN q r s0) := hp
  have HE : Hid (BothE q r) := hE
  clear hb hp hE
  have hUse : True := by
    have := hS
    have := hT
    have := hN0
    have := hN1
    trivial
  clear hUse
  go_enter Tryz.func76, Tryz.ntmps76
  go_wp2_with fail
  have h0 : Below w.heap.size w ((w.alloc (.cells #[.pointer (some ⟨bx, 0, none⟩), .pointer (some ⟨byy, 0, none⟩)] 122)).alloc (.cells #[.int .i64 2, .int .i64 W, .int .i64 N, .int .i64 M, .int .i64 K, .string S, .string T, .slice aL nL cL, .bool made] 77)) := ((Below.refl _ _).alloc (Nat.le_refl _) _).alloc (by simp) _
  have hc1 : ((w.alloc (.cells #[.pointer (some ⟨bx, 0, none⟩), .pointer (some ⟨byy, 0, none⟩)] 122)).alloc (.cells #[.int .i64 2, .int .i64 W, .int .i64 N, .int .i64 M, .int .i64 K, .string S, .string T, .slice aL nL cL, .bool made] 77)).cell? ⟨w.heap.size, 1, none⟩ = some (.pointer (some ⟨byy, 0, none⟩)) := by
    rw [World.cell?_alloc_past _ _ _ (by simp), World.cell?_alloc_at _ _ _ _ rfl]; rfl
  have hd2 : ((w.alloc (.cells #[.pointer (some ⟨bx, 0, none⟩), .pointer (some ⟨byy, 0, none⟩)] 122)).alloc (.cells #[.int .i64 2, .int .i64 W, .int .i64 N, .int .i64 M, .int .i64 K, .string S, .string T, .slice aL nL cL, .bool made] 77)).cell? ⟨w.heap.size + 1, 2, none⟩ = some (.int .i64 N) := by
    rw [World.cell?_alloc_at _ _ _ _ (by simp)]; rfl
  have hd3 : ((w.alloc (.cells #[.pointer (some ⟨bx, 0, none⟩), .pointer (some ⟨byy, 0, none⟩)] 122)).alloc (.cells #[.int .i64 2, .int .i64 W, .int .i64 N, .int .i64 M, .int .i64 K, .string S, .string T, .slice aL nL cL, .bool made] 77)).cell? ⟨w.heap.size + 1, 3, none⟩ = some (.int .i64 M) := by
    rw [World.cell?_alloc_at _ _ _ _ (by simp)]; rfl
  have hd5 : ((w.alloc (.cells #[.pointer (some ⟨bx, 0, none⟩), .pointer (some ⟨byy, 0, none⟩)] 122)).alloc (.cells #[.int .i64 2, .int .i64 W, .int .i64 N, .int .i64 M, .int .i64 K, .string S, .string T, .slice aL nL cL, .bool made] 77)).cell? ⟨w.heap.size + 1, 5, none⟩ = some (.string S) := by
    rw [World.cell?_alloc_at _ _ _ _ (by simp)]; rfl
  have hd6 : ((w.alloc (.cells #[.pointer (some ⟨bx, 0, none⟩), .pointer (some ⟨byy, 0, none⟩)] 122)).alloc (.cells #[.int .i64 2, .int .i64 W, .int .i64 N, .int .i64 M, .int .i64 K, .string S, .string T, .slice aL nL cL, .bool made] 77)).cell? ⟨w.heap.size + 1, 6, none⟩ = some (.string T) := by
    rw [World.cell?_alloc_at _ _ _ _ (by simp)]; rfl
  have hsz : w.heap.size + 2 ≤ ((w.alloc (.cells #[.pointer (some ⟨bx, 0, none⟩), .pointer (some ⟨byy, 0, none⟩)] 122)).alloc (.cells #[.int .i64 2, .int .i64 W, .int .i64 N, .int .i64 M, .int .i64 K, .string S, .string T, .slice aL nL cL, .bool made] 77)).heap.size := by simp
  generalize ((w.alloc (.cells #[.pointer (some ⟨bx, 0, none⟩), .pointer (some ⟨byy, 0, none⟩)] 122)).alloc (.cells #[.int .i64 2, .int .i64 W, .int .i64 N, .int .i64 M, .int .i64 K, .string S, .string T, .slice aL nL cL, .bool made] 77)) = w0 at *
  have hx0 : q w0 Fx bx s := HP.out.okq.stay HB.out.x h0.size (fun k hk => h0.block k (HP.out.okq.lt HB.out.x k hk))
  have hcx1 := HE.out.x.upsert w0 Fx bx s S T N M hx0 hS hT
  refine hcx1.mono ?_
  rintro e w1 ⟨rfl, Fx1, hx1, hFx1, hf1⟩
  have hz1 := hf1.size
  have hnx : ∀ k, w.heap.size ≤ k → ¬ Fx k := fun k hk h => by have := HP.out.okq.lt HB.out.x k h; omega
  have hc1w1 : w1.cell? ⟨w.heap.size, 1, none⟩ = some (.pointer (some ⟨byy, 0, none⟩)) := by rw [World.cell?_of_block (w := w0) (hf1.block _ (by simp only; omega) (hnx _ (by simp only; omega)))]; exact hc1
  have hd2w1 : w1.cell? ⟨w.heap.size + 1, 2, none⟩ = some (.int .i64 N) := by rw [World.cell?_of_block (w := w0) (hf1.block _ (by simp only; omega) (hnx _ (by simp only; omega)))]; exact hd2
  have hd3w1 : w1.cell? ⟨w.heap.size + 1, 3, none⟩ = some (.int .i64 M) := by rw [World.cell?_of_block (w := w0) (hf1.block _ (by simp only; omega) (hnx _ (by simp only; omega)))]; exact hd3
  have hd5w1 : w1.cell? ⟨w.heap.size + 1, 5, none⟩ = some (.string S) := by rw [World.cell?_of_block (w := w0) (hf1.block _ (by simp only; omega) (hnx _ (by simp only; omega)))]; exact hd5
  have hd6w1 : w1.cell? ⟨w.heap.size + 1, 6, none⟩ = some (.string T) := by rw [World.cell?_of_block (w := w0) (hf1.block _ (by simp only; omega) (hnx _ (by simp only; omega)))]; exact hd6
  have hy1 : r w1 Fy byy s := HP.out.okr.stay HB.out.y (by have := h0.size; omega) (fun k hk => by
    have hk' := HB.out.fy k hk
    have := h0.size
    rw [hf1.block k (by omega) (fun h => HB.out.apart.xy k h hk), h0.block k hk'])
  have HX1 : Hid (q w1 Fx1 bx _) := hx1
  have HH0 : Hid (Below w.heap.size w w0) := h0
  have hcy1 := HE.out.y.upsert w1 Fy byy s S T N M hy1 hS hT
  clear hx1 h0 hx0 hcx1 hnx
  go_wp2_with fail
  refine hcy1.mono ?_
  rintro e w2 ⟨rfl, Fy2, hy2, hFy2, hf2⟩
  have HAf : Hid (∃ s' : St, s'.2.2 = s.2.2 ∧ AfterG q r w w2 Fx Fy D B bx byy va vl vm last us s' last) := by
    refine ⟨_, ?_, after_both HP.out HB.out HH0.out HX1.out hFx1 hf1 hy2 hFy2 hf2⟩
    rfl
  clear hy2 hf2 hf1 hFx1 hy1 HX1 hFy2 hcy1
  go_wp2_with fail
  refine (num_any _ _).mono ?_
  rintro e w' ⟨rfl, rfl⟩
  go_wp2
  go_ret
  refine ⟨ret_bool ?_, HAf.out⟩
  simp

set_option maxHeartbeats 2000000 in
set_option maxRecDepth 100000 in
theorem edits_del (hp : ProgN q r s0) (hE : BothE q r) (w : World) (Fx Fy D : Nat → Prop) (B bx byy : Nat) (va vl vm : Value) (last : Nat) (us : List Value) (ms : List Wd) (s : St) (W N M K : Int) (S T : ByteArray) (aL : Option Addr) (nL cL : Nat) (made : Bool)
    (hb : BeforeG q r w Fx Fy D B bx byy va vl vm last us ms s) (hS : S.size ≤ maxLen) (hT : T.size ≤ maxLen) (hN0 : -9223372036854775808 ≤ N) (hN1 : N ≤ 9223372036854775807) :
    Calls Tryz.prog 76 #[.agg #[.pointer (some ⟨bx, 0, none⟩), .pointer (some ⟨byy, 0, none⟩)], .agg (opV 3 W N M K S T (.slice aL nL cL) made)] w fun e w' => e = .returned (.bool true) ∧ ∃ s' : St, s'.2.2 = s.2.2 ∧ AfterG q r w w' Fx Fy D B bx byy va vl vm last us s' last := by
  unfold opV
  have HB : Hid (BeforeG q r w Fx Fy D B bx byy va vl vm last us ms s) := hb
  have HP : Hid (ProgN q r s0) := hp
  have HE : Hid (BothE q r) := hE
  clear hb hp hE
  have hUse : True := by
    have := hS
    have := hT
    have := hN0
    have := hN1
    trivial
  clear hUse
  go_enter Tryz.func76, Tryz.ntmps76
  go_wp2_with fail
  have h0 : Below w.heap.size w ((w.alloc (.cells #[.pointer (some ⟨bx, 0, none⟩), .pointer (some ⟨byy, 0, none⟩)] 122)).alloc (.cells #[.int .i64 3, .int .i64 W, .int .i64 N, .int .i64 M, .int .i64 K, .string S, .string T, .slice aL nL cL, .bool made] 77)) := ((Below.refl _ _).alloc (Nat.le_refl _) _).alloc (by simp) _
  have hc1 : ((w.alloc (.cells #[.pointer (some ⟨bx, 0, none⟩), .pointer (some ⟨byy, 0, none⟩)] 122)).alloc (.cells #[.int .i64 3, .int .i64 W, .int .i64 N, .int .i64 M, .int .i64 K, .string S, .string T, .slice aL nL cL, .bool made] 77)).cell? ⟨w.heap.size, 1, none⟩ = some (.pointer (some ⟨byy, 0, none⟩)) := by
    rw [World.cell?_alloc_past _ _ _ (by simp), World.cell?_alloc_at _ _ _ _ rfl]; rfl
  have hd5 : ((w.alloc (.cells #[.pointer (some ⟨bx, 0, none⟩), .pointer (some ⟨byy, 0, none⟩)] 122)).alloc (.cells #[.int .i64 3, .int .i64 W, .int .i64 N, .int .i64 M, .int .i64 K, .string S, .string T, .slice aL nL cL, .bool made] 77)).cell? ⟨w.heap.size + 1, 5, none⟩ = some (.string S) := by
    rw [World.cell?_alloc_at _ _ _ _ (by simp)]; rfl
  have hsz : w.heap.size + 2 ≤ ((w.alloc (.cells #[.pointer (some ⟨bx, 0, none⟩), .pointer (some ⟨byy, 0, none⟩)] 122)).alloc (.cells #[.int .i64 3, .int .i64 W, .int .i64 N, .int .i64 M, .int .i64 K, .string S, .string T, .slice aL nL cL, .bool made] 77)).heap.size := by simp
  generalize ((w.alloc (.cells #[.pointer (some ⟨bx, 0, none⟩), .pointer (some ⟨byy, 0, none⟩)] 122)).alloc (.cells #[.int .i64 3, .int .i64 W, .int .i64 N, .int .i64 M, .int .i64 K, .string S, .string T, .slice aL nL cL, .bool made] 77)) = w0 at *
  have hx0 : q w0 Fx bx s := HP.out.okq.stay HB.out.x h0.size (fun k hk => h0.block k (HP.out.okq.lt HB.out.x k hk))
  have hcx1 := HE.out.x.delete w0 Fx bx s S hx0 hS
  refine hcx1.mono ?_
  rintro e w1 ⟨rfl, Fx1, hx1, hFx1, hf1⟩
  have hz1 := hf1.size
  have hnx : ∀ k, w.heap.size ≤ k → ¬ Fx k := fun k hk h => by have := HP.out.okq.lt HB.out.x k h; omega
  have hc1w1 : w1.cell? ⟨w.heap.size, 1, none⟩ = some (.pointer (some ⟨byy, 0, none⟩)) := by rw [World.cell?_of_block (w := w0) (hf1.block _ (by simp only; omega) (hnx _ (by simp only; omega)))]; exact hc1
  have hd5w1 : w1.cell? ⟨w.heap.size + 1, 5, none⟩ = some (.string S) := by rw [World.cell?_of_block (w := w0) (hf1.block _ (by simp only; omega) (hnx _ (by simp only; omega)))]; exact hd5
  have hy1 : r w1 Fy byy s := HP.out.okr.stay HB.out.y (by have := h0.size; omega) (fun k hk => by
    have hk' := HB.out.fy k hk
    have := h0.size
    rw [hf1.block k (by omega) (fun h => HB.out.apart.xy k h hk), h0.block k hk'])
  have HX1 : Hid (q w1 Fx1 bx _) := hx1
  have HH0 : Hid (Below w.heap.size w w0) := h0
  have hcy1 := HE.out.y.delete w1 Fy byy s S hy1 hS
  clear hx1 h0 hx0 hcx1 hnx
  go_wp2_with fail
  refine hcy1.mono ?_
  rintro e w2 ⟨rfl, Fy2, hy2, hFy2, hf2⟩
  have HAf : Hid (∃ s' : St, s'.2.2 = s.2.2 ∧ AfterG q r w w2 Fx Fy D B bx byy va vl vm last us s' last) := by
    refine ⟨_, ?_, after_both HP.out HB.out HH0.out HX1.out hFx1 hf1 hy2 hFy2 hf2⟩
    rfl
  clear hy2 hf2 hf1 hFx1 hy1 HX1 hFy2 hcy1
  go_wp2_with fail
  refine (num_any _ _).mono ?_
  rintro e w' ⟨rfl, rfl⟩
  go_wp2
  go_ret
  refine ⟨ret_bool ?_, HAf.out⟩
  simp

set_option maxHeartbeats 2000000 in
set_option maxRecDepth 100000 in
theorem edits_flu (hp : ProgN q r s0) (hE : BothE q r) (w : World) (Fx Fy D : Nat → Prop) (B bx byy : Nat) (va vl vm : Value) (last : Nat) (us : List Value) (ms : List Wd) (s : St) (W N M K : Int) (S T : ByteArray) (aL : Option Addr) (nL cL : Nat) (made : Bool)
    (hb : BeforeG q r w Fx Fy D B bx byy va vl vm last us ms s) (hS : S.size ≤ maxLen) (hT : T.size ≤ maxLen) (hN0 : -9223372036854775808 ≤ N) (hN1 : N ≤ 9223372036854775807) :
    Calls Tryz.prog 76 #[.agg #[.pointer (some ⟨bx, 0, none⟩), .pointer (some ⟨byy, 0, none⟩)], .agg (opV 4 W N M K S T (.slice aL nL cL) made)] w fun e w' => e = .returned (.bool true) ∧ ∃ s' : St, s'.2.2 = s.2.2 ∧ AfterG q r w w' Fx Fy D B bx byy va vl vm last us s' last := by
  unfold opV
  have HB : Hid (BeforeG q r w Fx Fy D B bx byy va vl vm last us ms s) := hb
  have HP : Hid (ProgN q r s0) := hp
  have HE : Hid (BothE q r) := hE
  clear hb hp hE
  have hUse : True := by
    have := hS
    have := hT
    have := hN0
    have := hN1
    trivial
  clear hUse
  go_enter Tryz.func76, Tryz.ntmps76
  go_wp2_with fail
  have h0 : Below w.heap.size w ((w.alloc (.cells #[.pointer (some ⟨bx, 0, none⟩), .pointer (some ⟨byy, 0, none⟩)] 122)).alloc (.cells #[.int .i64 4, .int .i64 W, .int .i64 N, .int .i64 M, .int .i64 K, .string S, .string T, .slice aL nL cL, .bool made] 77)) := ((Below.refl _ _).alloc (Nat.le_refl _) _).alloc (by simp) _
  have hc1 : ((w.alloc (.cells #[.pointer (some ⟨bx, 0, none⟩), .pointer (some ⟨byy, 0, none⟩)] 122)).alloc (.cells #[.int .i64 4, .int .i64 W, .int .i64 N, .int .i64 M, .int .i64 K, .string S, .string T, .slice aL nL cL, .bool made] 77)).cell? ⟨w.heap.size, 1, none⟩ = some (.pointer (some ⟨byy, 0, none⟩)) := by
    rw [World.cell?_alloc_past _ _ _ (by simp), World.cell?_alloc_at _ _ _ _ rfl]; rfl
  have hsz : w.heap.size + 2 ≤ ((w.alloc (.cells #[.pointer (some ⟨bx, 0, none⟩), .pointer (some ⟨byy, 0, none⟩)] 122)).alloc (.cells #[.int .i64 4, .int .i64 W, .int .i64 N, .int .i64 M, .int .i64 K, .string S, .string T, .slice aL nL cL, .bool made] 77)).heap.size := by simp
  generalize ((w.alloc (.cells #[.pointer (some ⟨bx, 0, none⟩), .pointer (some ⟨byy, 0, none⟩)] 122)).alloc (.cells #[.int .i64 4, .int .i64 W, .int .i64 N, .int .i64 M, .int .i64 K, .string S, .string T, .slice aL nL cL, .bool made] 77)) = w0 at *
  have hx0 : q w0 Fx bx s := HP.out.okq.stay HB.out.x h0.size (fun k hk => h0.block k (HP.out.okq.lt HB.out.x k hk))
  have hcx1 := HE.out.x.flush w0 Fx bx s hx0
  refine hcx1.mono ?_
  rintro e w1 ⟨rfl, Fx1, hx1, hFx1, hf1⟩
  have hz1 := hf1.size
  have hnx : ∀ k, w.heap.size ≤ k → ¬ Fx k := fun k hk h => by have := HP.out.okq.lt HB.out.x k h; omega
  have hc1w1 : w1.cell? ⟨w.heap.size, 1, none⟩ = some (.pointer (some ⟨byy, 0, none⟩)) := by rw [World.cell?_of_block (w := w0) (hf1.block _ (by simp only; omega) (hnx _ (by simp only; omega)))]; exact hc1
  have hy1 : r w1 Fy byy s := HP.out.okr.stay HB.out.y (by have := h0.size; omega) (fun k hk => by
    have hk' := HB.out.fy k hk
    have := h0.size
    rw [hf1.block k (by omega) (fun h => HB.out.apart.xy k h hk), h0.block k hk'])
  have HX1 : Hid (q w1 Fx1 bx _) := hx1
  have HH0 : Hid (Below w.heap.size w w0) := h0
  have hcy1 := HE.out.y.flush w1 Fy byy s hy1
  clear hx1 h0 hx0 hcx1 hnx
  go_wp2_with fail
  refine hcy1.mono ?_
  rintro e w2 ⟨rfl, Fy2, hy2, hFy2, hf2⟩
  have HAf : Hid (∃ s' : St, s'.2.2 = s.2.2 ∧ AfterG q r w w2 Fx Fy D B bx byy va vl vm last us s' last) := by
    refine ⟨_, ?_, after_both HP.out HB.out HH0.out HX1.out hFx1 hf1 hy2 hFy2 hf2⟩
    rfl
  clear hy2 hf2 hf1 hFx1 hy1 HX1 hFy2 hcy1
  go_wp2_with fail
  refine (num_any _ _).mono ?_
  rintro e w' ⟨rfl, rfl⟩
  go_wp2
  go_ret
  refine ⟨ret_bool ?_, HAf.out⟩
  simp

set_option maxHeartbeats 2000000 in
set_option maxRecDepth 100000 in
theorem edits_mer (hp : ProgN q r s0) (hE : BothE q r) (w : World) (Fx Fy D : Nat → Prop) (B bx byy : Nat) (va vl vm : Value) (last : Nat) (us : List Value) (ms : List Wd) (s : St) (W N M K : Int) (S T : ByteArray) (aL : Option Addr) (nL cL : Nat) (made : Bool)
    (hb : BeforeG q r w Fx Fy D B bx byy va vl vm last us ms s) (hS : S.size ≤ maxLen) (hT : T.size ≤ maxLen) (hN0 : -9223372036854775808 ≤ N) (hN1 : N ≤ 9223372036854775807) :
    Calls Tryz.prog 76 #[.agg #[.pointer (some ⟨bx, 0, none⟩), .pointer (some ⟨byy, 0, none⟩)], .agg (opV 5 W N M K S T (.slice aL nL cL) made)] w fun e w' => e = .returned (.bool true) ∧ ∃ s' : St, s'.2.2 = s.2.2 ∧ AfterG q r w w' Fx Fy D B bx byy va vl vm last us s' last := by
  unfold opV
  have HB : Hid (BeforeG q r w Fx Fy D B bx byy va vl vm last us ms s) := hb
  have HP : Hid (ProgN q r s0) := hp
  have HE : Hid (BothE q r) := hE
  clear hb hp hE
  have hUse : True := by
    have := hS
    have := hT
    have := hN0
    have := hN1
    trivial
  clear hUse
  go_enter Tryz.func76, Tryz.ntmps76
  go_wp2_with fail
  have h0 : Below w.heap.size w ((w.alloc (.cells #[.pointer (some ⟨bx, 0, none⟩), .pointer (some ⟨byy, 0, none⟩)] 122)).alloc (.cells #[.int .i64 5, .int .i64 W, .int .i64 N, .int .i64 M, .int .i64 K, .string S, .string T, .slice aL nL cL, .bool made] 77)) := ((Below.refl _ _).alloc (Nat.le_refl _) _).alloc (by simp) _
  have hc1 : ((w.alloc (.cells #[.pointer (some ⟨bx, 0, none⟩), .pointer (some ⟨byy, 0, none⟩)] 122)).alloc (.cells #[.int .i64 5, .int .i64 W, .int .i64 N, .int .i64 M, .int .i64 K, .string S, .string T, .slice aL nL cL, .bool made] 77)).cell? ⟨w.heap.size, 1, none⟩ = some (.pointer (some ⟨byy, 0, none⟩)) := by
    rw [World.cell?_alloc_past _ _ _ (by simp), World.cell?_alloc_at _ _ _ _ rfl]; rfl
  have hd2 : ((w.alloc (.cells #[.pointer (some ⟨bx, 0, none⟩), .pointer (some ⟨byy, 0, none⟩)] 122)).alloc (.cells #[.int .i64 5, .int .i64 W, .int .i64 N, .int .i64 M, .int .i64 K, .string S, .string T, .slice aL nL cL, .bool made] 77)).cell? ⟨w.heap.size + 1, 2, none⟩ = some (.int .i64 N) := by
    rw [World.cell?_alloc_at _ _ _ _ (by simp)]; rfl
  have hsz : w.heap.size + 2 ≤ ((w.alloc (.cells #[.pointer (some ⟨bx, 0, none⟩), .pointer (some ⟨byy, 0, none⟩)] 122)).alloc (.cells #[.int .i64 5, .int .i64 W, .int .i64 N, .int .i64 M, .int .i64 K, .string S, .string T, .slice aL nL cL, .bool made] 77)).heap.size := by simp
  generalize ((w.alloc (.cells #[.pointer (some ⟨bx, 0, none⟩), .pointer (some ⟨byy, 0, none⟩)] 122)).alloc (.cells #[.int .i64 5, .int .i64 W, .int .i64 N, .int .i64 M, .int .i64 K, .string S, .string T, .slice aL nL cL, .bool made] 77)) = w0 at *
  have hx0 : q w0 Fx bx s := HP.out.okq.stay HB.out.x h0.size (fun k hk => h0.block k (HP.out.okq.lt HB.out.x k hk))
  have hcx1 := HE.out.x.merge w0 Fx bx s N hx0 hN0 hN1
  refine hcx1.mono ?_
  rintro e w1 ⟨rfl, Fx1, hx1, hFx1, hf1⟩
  have hz1 := hf1.size
  have hnx : ∀ k, w.heap.size ≤ k → ¬ Fx k := fun k hk h => by have := HP.out.okq.lt HB.out.x k h; omega
  have hc1w1 : w1.cell? ⟨w.heap.size, 1, none⟩ = some (.pointer (some ⟨byy, 0, none⟩)) := by rw [World.cell?_of_block (w := w0) (hf1.block _ (by simp only; omega) (hnx _ (by simp only; omega)))]; exact hc1
  have hd2w1 : w1.cell? ⟨w.heap.size + 1, 2, none⟩ = some (.int .i64 N) := by rw [World.cell?_of_block (w := w0) (hf1.block _ (by simp only; omega) (hnx _ (by simp only; omega)))]; exact hd2
  have hy1 : r w1 Fy byy s := HP.out.okr.stay HB.out.y (by have := h0.size; omega) (fun k hk => by
    have hk' := HB.out.fy k hk
    have := h0.size
    rw [hf1.block k (by omega) (fun h => HB.out.apart.xy k h hk), h0.block k hk'])
  have HX1 : Hid (q w1 Fx1 bx _) := hx1
  have HH0 : Hid (Below w.heap.size w w0) := h0
  have hcy1 := HE.out.y.merge w1 Fy byy s N hy1 hN0 hN1
  clear hx1 h0 hx0 hcx1 hnx
  go_wp2_with fail
  refine hcy1.mono ?_
  rintro e w2 ⟨rfl, Fy2, hy2, hFy2, hf2⟩
  have HAf : Hid (∃ s' : St, s'.2.2 = s.2.2 ∧ AfterG q r w w2 Fx Fy D B bx byy va vl vm last us s' last) := by
    refine ⟨_, ?_, after_both HP.out HB.out HH0.out HX1.out hFx1 hf1 hy2 hFy2 hf2⟩
    rfl
  clear hy2 hf2 hf1 hFx1 hy1 HX1 hFy2 hcy1
  go_wp2_with fail
  refine (num_any _ _).mono ?_
  rintro e w' ⟨rfl, rfl⟩
  go_wp2
  go_ret
  refine ⟨ret_bool ?_, HAf.out⟩
  simp

end

end Go.Proofs.YtocbogeoffeolaaGreatDoor

namespace Go.Proofs.YtocbogeoffeolaaGreatDoor
open Go.RowKit

theorem packR_small {l : List Ent} (hr : ∀ e ∈ l, rawOk e) (hlen : l.length ≤ 1048576) (hsum : (l.map fun e => e.text.length).sum ≤ 1048576) : (⟨(packR l).toArray⟩ : ByteArray).size ≤ maxLen := by
  show (packR l).toArray.size ≤ _
  rw [List.size_toArray]
  unfold packR maxLen
  rw [List.length_cons, List.length_append]
  have h1 := gonP_bytes ((sortN l).filter fun e => e.gone) (fun e he => hr e (sortN_mem.1 (List.mem_filter.1 he).1))
  have h2 : ((sortN l).filter fun e => e.gone).length ≤ (sortN l).length := List.length_filter_le _ _
  have h3 : ((sortN l).filter fun e => !e.gone).length ≤ (sortN l).length := List.length_filter_le _ _
  rw [sortN_len] at h2 h3
  have h4 := node_len (packF l) ((sortN l).filter fun e => !e.gone) [] [] (fun e he => hr e (sortN_mem.1 (List.mem_filter.1 he).1))
  have h5 : packF l * (((sortN l).filter fun e => !e.gone).length * 3145743) ≤ 2097153 * (1048576 * 3145743) := Nat.mul_le_mul (by unfold packF; omega) (Nat.mul_le_mul_right _ (by omega))
  have h6 := Nat.mul_le_mul_right 1048577 (Nat.le_trans h2 hlen)
  simp only [List.length_nil] at h4
  omega

section
variable {q r : World → (Nat → Prop) → Nat → St → Prop} {s0 : St}

set_option maxHeartbeats 2000000 in
set_option maxRecDepth 100000 in
theorem packs_seg (hp : ProgN q r s0) (hE : BothE q r) (w : World) (Fx Fy D : Nat → Prop) (B bx byy : Nat) (va vl vm : Value) (last : Nat) (us : List Value) (ms : List Wd) (s : St) (W N M K : Int) (S T : ByteArray) (aL : Option Addr) (nL cL : Nat) (made : Bool)
    (hb : BeforeG q r w Fx Fy D B bx byy va vl vm last us ms s) (hS : S.size ≤ maxLen) (hT : T.size ≤ maxLen) (hN0 : -9223372036854775808 ≤ N) (hN1 : N ≤ 9223372036854775807) :
    Calls Tryz.prog 77 #[.agg #[.pointer (some ⟨bx, 0, none⟩), .pointer (some ⟨byy, 0, none⟩)], .agg (opV 6 W N M K S T (.slice aL nL cL) made)] w fun e w' => e = .returned (.bool true) ∧ ∃ s' : St, s'.2.2 = s.2.2 ∧ AfterG q r w w' Fx Fy D B bx byy va vl vm last us s' last := by
  unfold opV
  have HB : Hid (BeforeG q r w Fx Fy D B bx byy va vl vm last us ms s) := hb
  have HP : Hid (ProgN q r s0) := hp
  have HE : Hid (BothE q r) := hE
  clear hb hp hE
  have hUse : True := by
    have := hS
    have := hT
    have := hN0
    have := hN1
    trivial
  clear hUse
  go_enter Tryz.func77, Tryz.ntmps77
  go_wp2_with fail
  have h0 : Below w.heap.size w ((w.alloc (.cells #[.pointer (some ⟨bx, 0, none⟩), .pointer (some ⟨byy, 0, none⟩)] 122)).alloc (.cells #[.int .i64 6, .int .i64 W, .int .i64 N, .int .i64 M, .int .i64 K, .string S, .string T, .slice aL nL cL, .bool made] 77)) := ((Below.refl _ _).alloc (Nat.le_refl _) _).alloc (by simp) _
  have hc1 : ((w.alloc (.cells #[.pointer (some ⟨bx, 0, none⟩), .pointer (some ⟨byy, 0, none⟩)] 122)).alloc (.cells #[.int .i64 6, .int .i64 W, .int .i64 N, .int .i64 M, .int .i64 K, .string S, .string T, .slice aL nL cL, .bool made] 77)).cell? ⟨w.heap.size, 1, none⟩ = some (.pointer (some ⟨byy, 0, none⟩)) := by
    rw [World.cell?_alloc_past _ _ _ (by simp), World.cell?_alloc_at _ _ _ _ rfl]; rfl
  have hsz : w.heap.size + 2 ≤ ((w.alloc (.cells #[.pointer (some ⟨bx, 0, none⟩), .pointer (some ⟨byy, 0, none⟩)] 122)).alloc (.cells #[.int .i64 6, .int .i64 W, .int .i64 N, .int .i64 M, .int .i64 K, .string S, .string T, .slice aL nL cL, .bool made] 77)).heap.size := by simp
  generalize ((w.alloc (.cells #[.pointer (some ⟨bx, 0, none⟩), .pointer (some ⟨byy, 0, none⟩)] 122)).alloc (.cells #[.int .i64 6, .int .i64 W, .int .i64 N, .int .i64 M, .int .i64 K, .string S, .string T, .slice aL nL cL, .bool made] 77)) = w0 at *
  have hx0 : q w0 Fx bx s := HP.out.okq.stay HB.out.x h0.size (fun k hk => h0.block k (HP.out.okq.lt HB.out.x k hk))
  have hy0 : r w0 Fy byy s := HP.out.okr.stay HB.out.y h0.size (fun k hk => h0.block k (HB.out.fy k hk))
  have hcx1 := HE.out.segments w0 Fx bx s hx0
  obtain ⟨aS, cS, hcs⟩ := HE.out.row hy0
  have HAf : Hid (∃ s' : St, s'.2.2 = s.2.2 ∧ AfterG q r w w0 Fx Fy D B bx byy va vl vm last us s' last) := ⟨s, rfl, after_both HP.out HB.out h0 hx0 (fun _ hk => Or.inl hk) (FrameF.refl _ _) hy0 (fun _ hk => Or.inl hk) (FrameF.refl _ _)⟩
  clear h0 hx0 hy0
  refine hcx1.mono ?_
  rintro e w1 ⟨rfl, rfl⟩
  clear hcx1
  go_wp2
  go_ret
  refine ⟨ret_bool ?_, HAf.out⟩
  simp

set_option maxHeartbeats 2000000 in
set_option maxRecDepth 100000 in
theorem packs_dump (hp : ProgN q r s0) (hE : BothE q r) (w : World) (Fx Fy D : Nat → Prop) (B bx byy : Nat) (va vl vm : Value) (last : Nat) (us : List Value) (ms : List Wd) (s : St) (W N M K : Int) (S T : ByteArray) (aL : Option Addr) (nL cL : Nat) (made : Bool)
    (hb : BeforeG q r w Fx Fy D B bx byy va vl vm last us ms s) (hS : S.size ≤ maxLen) (hT : T.size ≤ maxLen) (hN0 : -9223372036854775808 ≤ N) (hN1 : N ≤ 9223372036854775807) :
    Calls Tryz.prog 77 #[.agg #[.pointer (some ⟨bx, 0, none⟩), .pointer (some ⟨byy, 0, none⟩)], .agg (opV 7 W N M K S T (.slice aL nL cL) made)] w fun e w' => e = .returned (.bool true) ∧ ∃ s' : St, s'.2.2 = s.2.2 ∧ AfterG q r w w' Fx Fy D B bx byy va vl vm last us s' last := by
  unfold opV
  have HB : Hid (BeforeG q r w Fx Fy D B bx byy va vl vm last us ms s) := hb
  have HP : Hid (ProgN q r s0) := hp
  have HE : Hid (BothE q r) := hE
  clear hb hp hE
  have hUse : True := by
    have := hS
    have := hT
    have := hN0
    have := hN1
    trivial
  clear hUse
  go_enter Tryz.func77, Tryz.ntmps77
  go_wp2_with fail
  have h0 : Below w.heap.size w ((w.alloc (.cells #[.pointer (some ⟨bx, 0, none⟩), .pointer (some ⟨byy, 0, none⟩)] 122)).alloc (.cells #[.int .i64 7, .int .i64 W, .int .i64 N, .int .i64 M, .int .i64 K, .string S, .string T, .slice aL nL cL, .bool made] 77)) := ((Below.refl _ _).alloc (Nat.le_refl _) _).alloc (by simp) _
  have hc1 : ((w.alloc (.cells #[.pointer (some ⟨bx, 0, none⟩), .pointer (some ⟨byy, 0, none⟩)] 122)).alloc (.cells #[.int .i64 7, .int .i64 W, .int .i64 N, .int .i64 M, .int .i64 K, .string S, .string T, .slice aL nL cL, .bool made] 77)).cell? ⟨w.heap.size, 1, none⟩ = some (.pointer (some ⟨byy, 0, none⟩)) := by
    rw [World.cell?_alloc_past _ _ _ (by simp), World.cell?_alloc_at _ _ _ _ rfl]; rfl
  have hd2 : ((w.alloc (.cells #[.pointer (some ⟨bx, 0, none⟩), .pointer (some ⟨byy, 0, none⟩)] 122)).alloc (.cells #[.int .i64 7, .int .i64 W, .int .i64 N, .int .i64 M, .int .i64 K, .string S, .string T, .slice aL nL cL, .bool made] 77)).cell? ⟨w.heap.size + 1, 2, none⟩ = some (.int .i64 N) := by
    rw [World.cell?_alloc_at _ _ _ _ (by simp)]; rfl
  have hsz : w.heap.size + 2 ≤ ((w.alloc (.cells #[.pointer (some ⟨bx, 0, none⟩), .pointer (some ⟨byy, 0, none⟩)] 122)).alloc (.cells #[.int .i64 7, .int .i64 W, .int .i64 N, .int .i64 M, .int .i64 K, .string S, .string T, .slice aL nL cL, .bool made] 77)).heap.size := by simp
  generalize ((w.alloc (.cells #[.pointer (some ⟨bx, 0, none⟩), .pointer (some ⟨byy, 0, none⟩)] 122)).alloc (.cells #[.int .i64 7, .int .i64 W, .int .i64 N, .int .i64 M, .int .i64 K, .string S, .string T, .slice aL nL cL, .bool made] 77)) = w0 at *
  have hx0 : q w0 Fx bx s := HP.out.okq.stay HB.out.x h0.size (fun k hk => h0.block k (HP.out.okq.lt HB.out.x k hk))
  have hcx1 := HE.out.x.dump w0 Fx bx s N hx0 hN0 hN1
  refine hcx1.mono ?_
  rintro e w1 ⟨rfl, hb1⟩
  have hz1 := hb1.size
  have h01 : Below w.heap.size w w1 := h0.trans (hb1.mono h0.size)
  have hx1 : q w1 Fx bx s := HP.out.okq.stay HB.out.x h01.size (fun k hk => h01.block k (HP.out.okq.lt HB.out.x k hk))
  have hy1 : r w1 Fy byy s := HP.out.okr.stay HB.out.y h01.size (fun k hk => h01.block k (HB.out.fy k hk))
  have hc1w := cell_later hb1 hc1
  have hd2w := cell_later hb1 hd2
  have hcy1 := HE.out.y.dump w1 Fy byy s N hy1 hN0 hN1
  have HH1 : Hid (Below w.heap.size w w1) := h01
  have HX1 : Hid (q w1 Fx bx s ∧ r w1 Fy byy s) := ⟨hx1, hy1⟩
  clear h0 hx0 hx1 hy1 hb1 h01 hcx1 hc1 hd2
  generalize (⟨(dumpL s.2.1 N).1.toArray⟩ : ByteArray) = dS at *
  generalize (dumpL s.2.1 N).2 = dN at *
  have hss : (dS.toList == dS.toList) = true := by simp
  go_wp2_with fail
  refine hcy1.mono ?_
  rintro e w2 ⟨rfl, hb2⟩
  have HAf : Hid (∃ s' : St, s'.2.2 = s.2.2 ∧ AfterG q r w w2 Fx Fy D B bx byy va vl vm last us s' last) := ⟨s, rfl, after_both HP.out HB.out HH1.out HX1.out.1 (fun _ hk => Or.inl hk) (FrameF.refl _ _) (HP.out.okr.stay HX1.out.2 hb2.size (fun k hk => hb2.block k (HP.out.okr.lt HX1.out.2 k hk))) (fun _ hk => Or.inl hk) (FrameF.of_below hb2)⟩
  clear hb2 HX1 HH1 hcy1 hc1w hd2w
  go_wp2_with fail
  refine (num_any _ _).mono ?_
  rintro e w' ⟨rfl, rfl⟩
  go_wp2
  go_ret
  refine ⟨ret_bool ?_, HAf.out⟩
  simp

set_option maxHeartbeats 2000000 in
set_option maxRecDepth 100000 in
theorem packs_load (hp : ProgN q r s0) (hE : BothE q r) (w : World) (Fx Fy D : Nat → Prop) (B bx byy : Nat) (va vl vm : Value) (last : Nat) (us : List Value) (ms : List Wd) (s : St) (W N M K : Int) (S T : ByteArray) (aL : Option Addr) (nL cL : Nat)
    (hb : BeforeG q r w Fx Fy D B bx byy va vl vm last us ms s) (hS : S.size ≤ maxLen) (hT : T.size ≤ maxLen) (hN0 : -9223372036854775808 ≤ N) (hN1 : N ≤ 9223372036854775807) :
    Calls Tryz.prog 77 #[.agg #[.pointer (some ⟨bx, 0, none⟩), .pointer (some ⟨byy, 0, none⟩)], .agg (opV 8 W N M K S T (.slice aL nL cL) false)] w fun e w' => e = .returned (.bool true) ∧ ∃ s' : St, s'.2.2 = s.2.2 ∧ AfterG q r w w' Fx Fy D B bx byy va vl vm last us s' last := by
  unfold opV
  have HB : Hid (BeforeG q r w Fx Fy D B bx byy va vl vm last us ms s) := hb
  have HP : Hid (ProgN q r s0) := hp
  have HE : Hid (BothE q r) := hE
  clear hb hp hE
  have hUse : True := by
    have := hS
    have := hT
    have := hN0
    have := hN1
    trivial
  clear hUse
  go_enter Tryz.func77, Tryz.ntmps77
  go_wp2_with fail
  have h0 : Below w.heap.size w ((w.alloc (.cells #[.pointer (some ⟨bx, 0, none⟩), .pointer (some ⟨byy, 0, none⟩)] 122)).alloc (.cells #[.int .i64 8, .int .i64 W, .int .i64 N, .int .i64 M, .int .i64 K, .string S, .string T, .slice aL nL cL, .bool false] 77)) := ((Below.refl _ _).alloc (Nat.le_refl _) _).alloc (by simp) _
  have hc1 : ((w.alloc (.cells #[.pointer (some ⟨bx, 0, none⟩), .pointer (some ⟨byy, 0, none⟩)] 122)).alloc (.cells #[.int .i64 8, .int .i64 W, .int .i64 N, .int .i64 M, .int .i64 K, .string S, .string T, .slice aL nL cL, .bool false] 77)).cell? ⟨w.heap.size, 1, none⟩ = some (.pointer (some ⟨byy, 0, none⟩)) := by
    rw [World.cell?_alloc_past _ _ _ (by simp), World.cell?_alloc_at _ _ _ _ rfl]; rfl
  have hd5 : ((w.alloc (.cells #[.pointer (some ⟨bx, 0, none⟩), .pointer (some ⟨byy, 0, none⟩)] 122)).alloc (.cells #[.int .i64 8, .int .i64 W, .int .i64 N, .int .i64 M, .int .i64 K, .string S, .string T, .slice aL nL cL, .bool false] 77)).cell? ⟨w.heap.size + 1, 5, none⟩ = some (.string S) := by
    rw [World.cell?_alloc_at _ _ _ _ (by simp)]; rfl
  have hd8 : ((w.alloc (.cells #[.pointer (some ⟨bx, 0, none⟩), .pointer (some ⟨byy, 0, none⟩)] 122)).alloc (.cells #[.int .i64 8, .int .i64 W, .int .i64 N, .int .i64 M, .int .i64 K, .string S, .string T, .slice aL nL cL, .bool false] 77)).cell? ⟨w.heap.size + 1, 8, none⟩ = some (.bool false) := by
    rw [World.cell?_alloc_at _ _ _ _ (by simp)]; rfl
  have hsz : w.heap.size + 2 ≤ ((w.alloc (.cells #[.pointer (some ⟨bx, 0, none⟩), .pointer (some ⟨byy, 0, none⟩)] 122)).alloc (.cells #[.int .i64 8, .int .i64 W, .int .i64 N, .int .i64 M, .int .i64 K, .string S, .string T, .slice aL nL cL, .bool false] 77)).heap.size := by simp
  generalize ((w.alloc (.cells #[.pointer (some ⟨bx, 0, none⟩), .pointer (some ⟨byy, 0, none⟩)] 122)).alloc (.cells #[.int .i64 8, .int .i64 W, .int .i64 N, .int .i64 M, .int .i64 K, .string S, .string T, .slice aL nL cL, .bool false] 77)) = w0 at *
  have hx0 : q w0 Fx bx s := HP.out.okq.stay HB.out.x h0.size (fun k hk => h0.block k (HP.out.okq.lt HB.out.x k hk))
  have hcx1 := HE.out.x.load w0 Fx bx s S hx0 hS
  refine hcx1.mono ?_
  rintro e w1 ⟨rfl, Fx1, hx1, hFx1, hf1⟩
  have hz1 := hf1.size
  have hnx : ∀ k, w.heap.size ≤ k → ¬ Fx k := fun k hk h => by have := HP.out.okq.lt HB.out.x k h; omega
  have hc1w1 : w1.cell? ⟨w.heap.size, 1, none⟩ = some (.pointer (some ⟨byy, 0, none⟩)) := by rw [World.cell?_of_block (w := w0) (hf1.block _ (by simp only; omega) (hnx _ (by simp only; omega)))]; exact hc1
  have hd5w1 : w1.cell? ⟨w.heap.size + 1, 5, none⟩ = some (.string S) := by rw [World.cell?_of_block (w := w0) (hf1.block _ (by simp only; omega) (hnx _ (by simp only; omega)))]; exact hd5
  have hy1 : r w1 Fy byy s := HP.out.okr.stay HB.out.y (by have := h0.size; omega) (fun k hk => by
    have hk' := HB.out.fy k hk
    have := h0.size
    rw [hf1.block k (by omega) (fun h => HB.out.apart.xy k h hk), h0.block k hk'])
  have HX1 : Hid (q w1 Fx1 bx _) := hx1
  have HH0 : Hid (Below w.heap.size w w0) := h0
  have hcy1 := HE.out.y.load w1 Fy byy s S hy1 hS
  clear hx1 h0 hx0 hcx1 hnx
  go_wp2_with fail
  refine hcy1.mono ?_
  rintro e w2 ⟨rfl, Fy2, hy2, hFy2, hf2⟩
  have HAf : Hid (∃ s' : St, s'.2.2 = s.2.2 ∧ AfterG q r w w2 Fx Fy D B bx byy va vl vm last us s' last) := by
    refine ⟨_, ?_, after_both HP.out HB.out HH0.out HX1.out hFx1 hf1 hy2 hFy2 hf2⟩
    rfl
  clear hy2 hf2 hf1 hFx1 hy1 HX1 hFy2 hcy1
  go_wp2_with fail
  refine (num_any _ _).mono ?_
  rintro e w' ⟨rfl, rfl⟩
  go_wp2
  go_ret
  refine ⟨ret_bool ?_, HAf.out⟩
  simp

set_option maxHeartbeats 2000000 in
set_option maxRecDepth 100000 in
theorem packs_made (hp : ProgN q r s0) (hE : BothE q r) (w : World) (Fx Fy D : Nat → Prop) (B bx byy : Nat) (va vl vm : Value) (last : Nat) (us : List Value) (ms : List Wd) (s : St) (W N M K : Int) (S T : ByteArray) (aL : Option Addr) (nL cL : Nat)
    (hb : BeforeG q r w Fx Fy D B bx byy va vl vm last us ms s) (hS : S.size ≤ maxLen) (hT : T.size ≤ maxLen) (hN0 : -9223372036854775808 ≤ N) (hN1 : N ≤ 9223372036854775807) (hL : LOk w (.slice aL nL cL)) :
    Calls Tryz.prog 77 #[.agg #[.pointer (some ⟨bx, 0, none⟩), .pointer (some ⟨byy, 0, none⟩)], .agg (opV 8 W N M K S T (.slice aL nL cL) true)] w fun e w' => e = .returned (.bool true) ∧ ∃ s' : St, s'.2.2 = s.2.2 ∧ AfterG q r w w' Fx Fy D B bx byy va vl vm last us s' last := by
  unfold opV
  have HB : Hid (BeforeG q r w Fx Fy D B bx byy va vl vm last us ms s) := hb
  have HP : Hid (ProgN q r s0) := hp
  have HE : Hid (BothE q r) := hE
  clear hb hp hE
  have hUse : True := by
    have := hS
    have := hT
    have := hN0
    have := hN1
    trivial
  clear hUse
  go_enter Tryz.func77, Tryz.ntmps77
  go_wp2_with fail
  have h0 : Below w.heap.size w ((w.alloc (.cells #[.pointer (some ⟨bx, 0, none⟩), .pointer (some ⟨byy, 0, none⟩)] 122)).alloc (.cells #[.int .i64 8, .int .i64 W, .int .i64 N, .int .i64 M, .int .i64 K, .string S, .string T, .slice aL nL cL, .bool true] 77)) := ((Below.refl _ _).alloc (Nat.le_refl _) _).alloc (by simp) _
  have hc1 : ((w.alloc (.cells #[.pointer (some ⟨bx, 0, none⟩), .pointer (some ⟨byy, 0, none⟩)] 122)).alloc (.cells #[.int .i64 8, .int .i64 W, .int .i64 N, .int .i64 M, .int .i64 K, .string S, .string T, .slice aL nL cL, .bool true] 77)).cell? ⟨w.heap.size, 1, none⟩ = some (.pointer (some ⟨byy, 0, none⟩)) := by
    rw [World.cell?_alloc_past _ _ _ (by simp), World.cell?_alloc_at _ _ _ _ rfl]; rfl
  have hcx : ((w.alloc (.cells #[.pointer (some ⟨bx, 0, none⟩), .pointer (some ⟨byy, 0, none⟩)] 122)).alloc (.cells #[.int .i64 8, .int .i64 W, .int .i64 N, .int .i64 M, .int .i64 K, .string S, .string T, .slice aL nL cL, .bool true] 77)).cell? ⟨w.heap.size, 0, none⟩ = some (.pointer (some ⟨bx, 0, none⟩)) := by
    rw [World.cell?_alloc_past _ _ _ (by simp), World.cell?_alloc_at _ _ _ _ rfl]; rfl
  have hd7 : ((w.alloc (.cells #[.pointer (some ⟨bx, 0, none⟩), .pointer (some ⟨byy, 0, none⟩)] 122)).alloc (.cells #[.int .i64 8, .int .i64 W, .int .i64 N, .int .i64 M, .int .i64 K, .string S, .string T, .slice aL nL cL, .bool true] 77)).cell? ⟨w.heap.size + 1, 7, none⟩ = some (.slice aL nL cL) := by
    rw [World.cell?_alloc_at _ _ _ _ (by simp)]; rfl
  have hd8 : ((w.alloc (.cells #[.pointer (some ⟨bx, 0, none⟩), .pointer (some ⟨byy, 0, none⟩)] 122)).alloc (.cells #[.int .i64 8, .int .i64 W, .int .i64 N, .int .i64 M, .int .i64 K, .string S, .string T, .slice aL nL cL, .bool true] 77)).cell? ⟨w.heap.size + 1, 8, none⟩ = some (.bool true) := by
    rw [World.cell?_alloc_at _ _ _ _ (by simp)]; rfl
  have hsz : w.heap.size + 2 ≤ ((w.alloc (.cells #[.pointer (some ⟨bx, 0, none⟩), .pointer (some ⟨byy, 0, none⟩)] 122)).alloc (.cells #[.int .i64 8, .int .i64 W, .int .i64 N, .int .i64 M, .int .i64 K, .string S, .string T, .slice aL nL cL, .bool true] 77)).heap.size := by simp
  generalize ((w.alloc (.cells #[.pointer (some ⟨bx, 0, none⟩), .pointer (some ⟨byy, 0, none⟩)] 122)).alloc (.cells #[.int .i64 8, .int .i64 W, .int .i64 N, .int .i64 M, .int .i64 K, .string S, .string T, .slice aL nL cL, .bool true] 77)) = w0 at *
  obtain ⟨lE, hrd, hraw, hl20, hsum⟩ := hL.below h0
  obtain ⟨eN, eE⟩ : nL = lE.length ∧ True := by
    obtain ⟨a', c', he, _⟩ := id hrd
    simp only [Value.slice.injEq] at he
    exact ⟨he.2.1, trivial⟩
  subst eN
  have hpk := refPack _ lE w0 hrd hraw hl20 hsum
  have hps := packR_small hraw hl20 hsum
  generalize (⟨(packR lE).toArray⟩ : ByteArray) = pk at *
  clear hrd hraw
  refine hpk.mono ?_
  rintro e w3 ⟨rfl, hb3⟩
  have hc1w3 := cell_later hb3 hc1
  have hcxw3 := cell_later hb3 hcx
  have h03 : Below w.heap.size w w3 := h0.trans (hb3.mono h0.size)
  have hz3 := hb3.size
  clear h0 hb3 hpk hc1 hcx hd7 hd8
  have h0 := h03
  clear h03
  go_wp2_with fail
  have hx0 : q w3 Fx bx s := HP.out.okq.stay HB.out.x h0.size (fun k hk => h0.block k (HP.out.okq.lt HB.out.x k hk))
  have hcx1 := HE.out.x.load w3 Fx bx s pk hx0 hps
  refine hcx1.mono ?_
  rintro e w1 ⟨rfl, Fx1, hx1, hFx1, hf1⟩
  have hz1 := hf1.size
  have hnx : ∀ k, w.heap.size ≤ k → ¬ Fx k := fun k hk h => by have := HP.out.okq.lt HB.out.x k h; omega
  have hc1w1 : w1.cell? ⟨w.heap.size, 1, none⟩ = some (.pointer (some ⟨byy, 0, none⟩)) := by rw [World.cell?_of_block (w := w3) (hf1.block _ (by simp only; omega) (hnx _ (by simp only; omega)))]; exact hc1w3
  have hy1 : r w1 Fy byy s := HP.out.okr.stay HB.out.y (by have := h0.size; omega) (fun k hk => by
    have hk' := HB.out.fy k hk
    have := h0.size
    rw [hf1.block k (by omega) (fun h => HB.out.apart.xy k h hk), h0.block k hk'])
  have HX1 : Hid (q w1 Fx1 bx _) := hx1
  have HH0 : Hid (Below w.heap.size w w3) := h0
  have hcy1 := HE.out.y.load w1 Fy byy s pk hy1 hps
  clear hx1 h0 hx0 hcx1 hnx
  go_wp2_with fail
  refine hcy1.mono ?_
  rintro e w2 ⟨rfl, Fy2, hy2, hFy2, hf2⟩
  have HAf : Hid (∃ s' : St, s'.2.2 = s.2.2 ∧ AfterG q r w w2 Fx Fy D B bx byy va vl vm last us s' last) := by
    refine ⟨_, ?_, after_both HP.out HB.out HH0.out HX1.out hFx1 hf1 hy2 hFy2 hf2⟩
    rfl
  clear hy2 hf2 hf1 hFx1 hy1 HX1 hFy2 hcy1
  go_wp2_with fail
  refine (num_any _ _).mono ?_
  rintro e w' ⟨rfl, rfl⟩
  go_wp2
  go_ret
  refine ⟨ret_bool ?_, HAf.out⟩
  simp

end

end Go.Proofs.YtocbogeoffeolaaGreatDoor

namespace Go.Proofs.YtocbogeoffeolaaGreatDoor
open Go.RowKit

/-- How much the texts are. -/
def szT (s : St) : Nat := bulkT s.2.2
/-- The numbers and texts of an Op. -/
structure OpB (N M K W : Int) (S T : ByteArray) : Prop where
  n0 : -9223372036854775808 ≤ N
  n1 : N ≤ 9223372036854775807
  m0 : -9223372036854775808 ≤ M
  m1 : M ≤ 9223372036854775807
  k0 : -9223372036854775808 ≤ K
  k1 : K ≤ 9223372036854775807
  w0 : -9223372036854775808 ≤ W
  w1 : W ≤ 9223372036854775807
  s : S.size ≤ maxLen
  t : T.size ≤ maxLen

section
variable {q r : World → (Nat → Prop) → Nat → St → Prop} {s0 : St}

theorem edits_all (hp : ProgN q r s0) (hE : BothE q r) (w : World) (Fx Fy D : Nat → Prop) (B bx byy : Nat) (va vl vm : Value) (last : Nat) (us : List Value) (ms : List Wd) (s : St) (kind W N M K : Int) (S T : ByteArray) (aL : Option Addr) (nL cL : Nat) (made : Bool)
    (hb : BeforeG q r w Fx Fy D B bx byy va vl vm last us ms s) (ho : OpB N M K W S T) (hk0 : 2 ≤ kind) (hk1 : kind ≤ 5) :
    Calls Tryz.prog 76 #[.agg #[.pointer (some ⟨bx, 0, none⟩), .pointer (some ⟨byy, 0, none⟩)], .agg (opV kind W N M K S T (.slice aL nL cL) made)] w fun e w' => e = .returned (.bool true) ∧ ∃ s' : St, s'.2.2 = s.2.2 ∧ AfterG q r w w' Fx Fy D B bx byy va vl vm last us s' last := by
  have hc : kind = 2 ∨ kind = 3 ∨ kind = 4 ∨ kind = 5 := by omega
  rcases hc with rfl | rfl | rfl | rfl
  · exact edits_ups hp hE w Fx Fy D B bx byy va vl vm last us ms s W N M K S T aL nL cL made hb ho.s ho.t ho.n0 ho.n1
  · exact edits_del hp hE w Fx Fy D B bx byy va vl vm last us ms s W N M K S T aL nL cL made hb ho.s ho.t ho.n0 ho.n1
  · exact edits_flu hp hE w Fx Fy D B bx byy va vl vm last us ms s W N M K S T aL nL cL made hb ho.s ho.t ho.n0 ho.n1
  · exact edits_mer hp hE w Fx Fy D B bx byy va vl vm last us ms s W N M K S T aL nL cL made hb ho.s ho.t ho.n0 ho.n1
theorem packs_all (hp : ProgN q r s0) (hE : BothE q r) (w : World) (Fx Fy D : Nat → Prop) (B bx byy : Nat) (va vl vm : Value) (last : Nat) (us : List Value) (ms : List Wd) (s : St) (kind W N M K : Int) (S T : ByteArray) (aL : Option Addr) (nL cL : Nat) (made : Bool)
    (hb : BeforeG q r w Fx Fy D B bx byy va vl vm last us ms s) (ho : OpB N M K W S T) (hL : LOk w (.slice aL nL cL)) (hk0 : 6 ≤ kind) (hk1 : kind ≤ 8) :
    Calls Tryz.prog 77 #[.agg #[.pointer (some ⟨bx, 0, none⟩), .pointer (some ⟨byy, 0, none⟩)], .agg (opV kind W N M K S T (.slice aL nL cL) made)] w fun e w' => e = .returned (.bool true) ∧ ∃ s' : St, s'.2.2 = s.2.2 ∧ AfterG q r w w' Fx Fy D B bx byy va vl vm last us s' last := by
  have hc : kind = 6 ∨ kind = 7 ∨ kind = 8 := by omega
  rcases hc with rfl | rfl | rfl
  · exact packs_seg hp hE w Fx Fy D B bx byy va vl vm last us ms s W N M K S T aL nL cL made hb ho.s ho.t ho.n0 ho.n1
  · exact packs_dump hp hE w Fx Fy D B bx byy va vl vm last us ms s W N M K S T aL nL cL made hb ho.s ho.t ho.n0 ho.n1
  · cases made with
    | false => exact packs_load hp hE w Fx Fy D B bx byy va vl vm last us ms s W N M K S T aL nL cL hb ho.s ho.t ho.n0 ho.n1
    | true => exact packs_made hp hE w Fx Fy D B bx byy va vl vm last us ms s W N M K S T aL nL cL hb ho.s ho.t ho.n0 ho.n1 hL

set_option maxHeartbeats 2000000 in
set_option maxRecDepth 100000 in
theorem step_edits (hp : ProgN q r s0) (hE : BothE q r) (w0 w : World) (B : Nat) (D : Nat → Prop) (va vl vm : Value) (last : Nat) (us : List Value) (ms : List Wd) (es : List (EngG St)) (M : Nat) (kind W N Mm K : Int) (S T : ByteArray) (aL : Option Addr) (nL cL : Nat) (made : Bool)
    (h : GG q r w0 w B D va vl vm last us ms es) (h1 : 1 ≤ es.length) (hle : es.length ≤ 10) (ho : OpB N Mm K W S T) (hL : LOk w (.slice aL nL cL)) (hk0 : 2 ≤ kind) (hk1 : kind ≤ 5) (hbk : ∀ i (h : i < es.length), szT es[i].ts ≤ M) (hl : last ≤ 1073741824) (hu : us.length ≤ 17179869184) :
    Calls Tryz.prog 41 #[.pointer (some ⟨B, 0, none⟩), .agg (opV kind W N Mm K S T (.slice aL nL cL) made)] w fun e w' => e = .returned (.bool true) ∧ NextG q r szT w0 w' B last us es M := by
  have HP : Hid (ProgN q r s0) := hp
  have HE : Hid (BothE q r) := hE
  have HLO : Hid (LOk w (.slice aL nL cL)) := hL
  have HOB : Hid (OpB N Mm K W S T) := ho
  have hi := pickN_lt W es.length h1
  obtain ⟨i, hie⟩ : ∃ i, i = pickN W es.length := ⟨_, rfl⟩
  rw [← hie] at hi
  obtain ⟨g, c, hva, hcx, hcy⟩ := row_cellsG h i hi
  subst hva
  have HIE : Hid (i = pickN W es.length) := hie
  have HG : Hid (GG q r w0 w B D (.slice (some ⟨g, 0, none⟩) es.length c) vl vm last us ms es) := h
  have HK : Hid (∀ i (h : i < es.length), szT es[i].ts ≤ M) := hbk
  have hc0 : w.cell? ⟨B, 0, none⟩ = some (.slice (some ⟨g, 0, none⟩) es.length c) := by rw [cell_of_heap h.heap]; rfl
  have hBz := h.bz
  have hgz : g < w.heap.size := cell_lt hcx
  have HKD : Hid (2 ≤ kind ∧ kind ≤ 5) := ⟨hk0, hk1⟩
  have hkn1 : (kind == 1) = false := by rw [beq_eq_false_iff_ne]; omega
  have hkn2 : ¬ kind < 2 := by omega
  have hkn3 : ¬ 11 < kind := by omega
  have hkn4 : kind ≤ 5 := hk1
  clear hp hE h hbk hie ho hL hk0
  unfold opV
  generalize hbx : es[i].bx = bx at *
  generalize hby : es[i].byy = byy at *
  have HBX : Hid (es[i].bx = bx) := hbx
  have HBY : Hid (es[i].byy = byy) := hby
  clear hbx hby
  go_enter Tryz.func41, Tryz.ntmps41
  go_upto_region 5 with fail
  have HPK : Hid (∀ w' : World, Calls Tryz.prog 75 #[.int .i64 W, .int .i64 es.length] w' fun e w'' => e = .returned (.int .i64 i) ∧ w' = w'') := fun w' => by
    have := pick_any W es.length w' HOB.out.w0 HOB.out.w1 h1 (by omega)
    rw [← HIE.out] at this
    exact this
  have hq0 : (w.alloc (.cells #[.int .i64 kind, .int .i64 W, .int .i64 N, .int .i64 Mm, .int .i64 K, .string S, .string T, .slice aL nL cL, .bool made] 77)).cell? ⟨B, 0, none⟩ = some (.slice (some ⟨g, 0, none⟩) es.length c) := by rw [World.cell?_alloc_past _ _ _ hBz]; exact hc0
  have hq1 : (w.alloc (.cells #[.int .i64 kind, .int .i64 W, .int .i64 N, .int .i64 Mm, .int .i64 K, .string S, .string T, .slice aL nL cL, .bool made] 77)).cell? ⟨w.heap.size, 1, none⟩ = some (.int .i64 W) := by rw [World.cell?_alloc_at _ _ _ _ rfl]; rfl
  have hq2 : (w.alloc (.cells #[.int .i64 kind, .int .i64 W, .int .i64 N, .int .i64 Mm, .int .i64 K, .string S, .string T, .slice aL nL cL, .bool made] 77)).cell? ⟨g, i * 2, none⟩ = some (.pointer (some ⟨bx, 0, none⟩)) := by rw [World.cell?_alloc_past _ _ _ hgz]; exact hcx
  have hq3 : (w.alloc (.cells #[.int .i64 kind, .int .i64 W, .int .i64 N, .int .i64 Mm, .int .i64 K, .string S, .string T, .slice aL nL cL, .bool made] 77)).cell? ⟨g, i * 2 + 1, none⟩ = some (.pointer (some ⟨byy, 0, none⟩)) := by rw [World.cell?_alloc_past _ _ _ hgz]; exact hcy
  have hii : (i : Int) < (es.length : Int) := by omega
  have hne1 : B ≠ w.heap.size := by omega
  go_region_held (fun w' => w'.cell? ⟨B, 0, none⟩ = some (.slice (some ⟨g, 0, none⟩) es.length c) ∧ w'.cell? ⟨w.heap.size, 1, none⟩ = some (.int .i64 W) ∧ w'.cell? ⟨g, i * 2, none⟩ = some (.pointer (some ⟨bx, 0, none⟩)) ∧ w'.cell? ⟨g, i * 2 + 1, none⟩ = some (.pointer (some ⟨byy, 0, none⟩))) (go_keep) (first | (go_at_call 75; refine (HPK.out _).mono ?_; rintro e w' ⟨rfl, rfl⟩))
  all_goals
    clear hq0 hq1 hq2 hq3 hcx hcy hc0
    go_wp2_with fail
    have hb1 : Below w.heap.size w ((w.alloc (.cells #[.int .i64 kind, .int .i64 W, .int .i64 N, .int .i64 Mm, .int .i64 K, .string S, .string T, .slice aL nL cL, .bool made] 77)).alloc (.cells #[.pointer (some ⟨bx, 0, none⟩), .pointer (some ⟨byy, 0, none⟩)] 122)).drew := (((Below.refl _ _).alloc (Nat.le_refl _) _).alloc (by simp) _).drew
    have hG1 := HG.out.below HP.out hb1
    have hL1 := HLO.out.below hb1
    generalize ((w.alloc (.cells #[.int .i64 kind, .int .i64 W, .int .i64 N, .int .i64 Mm, .int .i64 K, .string S, .string T, .slice aL nL cL, .bool made] 77)).alloc (.cells #[.pointer (some ⟨bx, 0, none⟩), .pointer (some ⟨byy, 0, none⟩)] 122)).drew = w1 at *
    have hbf := hG1.before i hi hl hu
    rw [HBX.out, HBY.out] at hbf
    refine (edits_all HP.out HE.out w1 _ _ _ _ _ _ _ _ _ _ _ _ _ kind W N Mm K S T aL nL cL made hbf HOB.out HKD.out.1 HKD.out.2).mono ?_
    rintro e w2 ⟨rfl, s', hs', haf⟩
    rw [← HBX.out, ← HBY.out] at haf
    obtain ⟨D', vl', vm', us', ms', e', hG2, hts, hul⟩ := hG1.after HP.out i hi haf
    have HN : Hid (NextG q r szT w0 w2 B last us es M) := ⟨D', _, vl', vm', last, us', ms', es.set i e', hG2, by omega, hul, by simp, by simp, fun j hj => by
      rw [List.length_set] at hj
      rw [List.getElem_set]
      split
      · have h3 := HK.out i hi
        unfold szT at h3 ⊢
        rw [hts, hs']; omega
      · have := HK.out j hj; omega⟩
    clear hG2 hts hul haf hbf hG1 hb1 hL1
    go_wp2
    go_ret
    exact ⟨rfl, HN.out⟩

set_option maxHeartbeats 2000000 in
set_option maxRecDepth 100000 in
theorem step_packs (hp : ProgN q r s0) (hE : BothE q r) (w0 w : World) (B : Nat) (D : Nat → Prop) (va vl vm : Value) (last : Nat) (us : List Value) (ms : List Wd) (es : List (EngG St)) (M : Nat) (kind W N Mm K : Int) (S T : ByteArray) (aL : Option Addr) (nL cL : Nat) (made : Bool)
    (h : GG q r w0 w B D va vl vm last us ms es) (h1 : 1 ≤ es.length) (hle : es.length ≤ 10) (ho : OpB N Mm K W S T) (hL : LOk w (.slice aL nL cL)) (hk0 : 6 ≤ kind) (hk1 : kind ≤ 8) (hbk : ∀ i (h : i < es.length), szT es[i].ts ≤ M) (hl : last ≤ 1073741824) (hu : us.length ≤ 17179869184) :
    Calls Tryz.prog 41 #[.pointer (some ⟨B, 0, none⟩), .agg (opV kind W N Mm K S T (.slice aL nL cL) made)] w fun e w' => e = .returned (.bool true) ∧ NextG q r szT w0 w' B last us es M := by
  have HP : Hid (ProgN q r s0) := hp
  have HE : Hid (BothE q r) := hE
  have HLO : Hid (LOk w (.slice aL nL cL)) := hL
  have HOB : Hid (OpB N Mm K W S T) := ho
  have hi := pickN_lt W es.length h1
  obtain ⟨i, hie⟩ : ∃ i, i = pickN W es.length := ⟨_, rfl⟩
  rw [← hie] at hi
  obtain ⟨g, c, hva, hcx, hcy⟩ := row_cellsG h i hi
  subst hva
  have HIE : Hid (i = pickN W es.length) := hie
  have HG : Hid (GG q r w0 w B D (.slice (some ⟨g, 0, none⟩) es.length c) vl vm last us ms es) := h
  have HK : Hid (∀ i (h : i < es.length), szT es[i].ts ≤ M) := hbk
  have hc0 : w.cell? ⟨B, 0, none⟩ = some (.slice (some ⟨g, 0, none⟩) es.length c) := by rw [cell_of_heap h.heap]; rfl
  have hBz := h.bz
  have hgz : g < w.heap.size := cell_lt hcx
  have HKD : Hid (6 ≤ kind ∧ kind ≤ 8) := ⟨hk0, hk1⟩
  have hkn1 : (kind == 1) = false := by rw [beq_eq_false_iff_ne]; omega
  have hkn2 : ¬ kind < 2 := by omega
  have hkn3 : ¬ 11 < kind := by omega
  have hkn4 : ¬ kind ≤ 5 := by omega
  clear hp hE h hbk hie ho hL hk0
  unfold opV
  generalize hbx : es[i].bx = bx at *
  generalize hby : es[i].byy = byy at *
  have HBX : Hid (es[i].bx = bx) := hbx
  have HBY : Hid (es[i].byy = byy) := hby
  clear hbx hby
  go_enter Tryz.func41, Tryz.ntmps41
  go_upto_region 5 with fail
  have HPK : Hid (∀ w' : World, Calls Tryz.prog 75 #[.int .i64 W, .int .i64 es.length] w' fun e w'' => e = .returned (.int .i64 i) ∧ w' = w'') := fun w' => by
    have := pick_any W es.length w' HOB.out.w0 HOB.out.w1 h1 (by omega)
    rw [← HIE.out] at this
    exact this
  have hq0 : (w.alloc (.cells #[.int .i64 kind, .int .i64 W, .int .i64 N, .int .i64 Mm, .int .i64 K, .string S, .string T, .slice aL nL cL, .bool made] 77)).cell? ⟨B, 0, none⟩ = some (.slice (some ⟨g, 0, none⟩) es.length c) := by rw [World.cell?_alloc_past _ _ _ hBz]; exact hc0
  have hq1 : (w.alloc (.cells #[.int .i64 kind, .int .i64 W, .int .i64 N, .int .i64 Mm, .int .i64 K, .string S, .string T, .slice aL nL cL, .bool made] 77)).cell? ⟨w.heap.size, 1, none⟩ = some (.int .i64 W) := by rw [World.cell?_alloc_at _ _ _ _ rfl]; rfl
  have hq2 : (w.alloc (.cells #[.int .i64 kind, .int .i64 W, .int .i64 N, .int .i64 Mm, .int .i64 K, .string S, .string T, .slice aL nL cL, .bool made] 77)).cell? ⟨g, i * 2, none⟩ = some (.pointer (some ⟨bx, 0, none⟩)) := by rw [World.cell?_alloc_past _ _ _ hgz]; exact hcx
  have hq3 : (w.alloc (.cells #[.int .i64 kind, .int .i64 W, .int .i64 N, .int .i64 Mm, .int .i64 K, .string S, .string T, .slice aL nL cL, .bool made] 77)).cell? ⟨g, i * 2 + 1, none⟩ = some (.pointer (some ⟨byy, 0, none⟩)) := by rw [World.cell?_alloc_past _ _ _ hgz]; exact hcy
  have hii : (i : Int) < (es.length : Int) := by omega
  have hne1 : B ≠ w.heap.size := by omega
  go_region_held (fun w' => w'.cell? ⟨B, 0, none⟩ = some (.slice (some ⟨g, 0, none⟩) es.length c) ∧ w'.cell? ⟨w.heap.size, 1, none⟩ = some (.int .i64 W) ∧ w'.cell? ⟨g, i * 2, none⟩ = some (.pointer (some ⟨bx, 0, none⟩)) ∧ w'.cell? ⟨g, i * 2 + 1, none⟩ = some (.pointer (some ⟨byy, 0, none⟩))) (go_keep) (first | (go_at_call 75; refine (HPK.out _).mono ?_; rintro e w' ⟨rfl, rfl⟩))
  all_goals
    clear hq0 hq1 hq2 hq3 hcx hcy hc0
    go_wp2_with fail
    have hb1 : Below w.heap.size w ((w.alloc (.cells #[.int .i64 kind, .int .i64 W, .int .i64 N, .int .i64 Mm, .int .i64 K, .string S, .string T, .slice aL nL cL, .bool made] 77)).alloc (.cells #[.pointer (some ⟨bx, 0, none⟩), .pointer (some ⟨byy, 0, none⟩)] 122)).drew := (((Below.refl _ _).alloc (Nat.le_refl _) _).alloc (by simp) _).drew
    have hG1 := HG.out.below HP.out hb1
    have hL1 := HLO.out.below hb1
    generalize ((w.alloc (.cells #[.int .i64 kind, .int .i64 W, .int .i64 N, .int .i64 Mm, .int .i64 K, .string S, .string T, .slice aL nL cL, .bool made] 77)).alloc (.cells #[.pointer (some ⟨bx, 0, none⟩), .pointer (some ⟨byy, 0, none⟩)] 122)).drew = w1 at *
    have hbf := hG1.before i hi hl hu
    rw [HBX.out, HBY.out] at hbf
    refine (packs_all HP.out HE.out w1 _ _ _ _ _ _ _ _ _ _ _ _ _ kind W N Mm K S T aL nL cL made hbf HOB.out hL1 HKD.out.1 HKD.out.2).mono ?_
    rintro e w2 ⟨rfl, s', hs', haf⟩
    rw [← HBX.out, ← HBY.out] at haf
    obtain ⟨D', vl', vm', us', ms', e', hG2, hts, hul⟩ := hG1.after HP.out i hi haf
    have HN : Hid (NextG q r szT w0 w2 B last us es M) := ⟨D', _, vl', vm', last, us', ms', es.set i e', hG2, by omega, hul, by simp, by simp, fun j hj => by
      rw [List.length_set] at hj
      rw [List.getElem_set]
      split
      · have h3 := HK.out i hi
        unfold szT at h3 ⊢
        rw [hts, hs']; omega
      · have := HK.out j hj; omega⟩
    clear hG2 hts hul haf hbf hG1 hb1 hL1
    go_wp2
    go_ret
    exact ⟨rfl, HN.out⟩

end

end Go.Proofs.YtocbogeoffeolaaGreatDoor

namespace Go.Proofs.YtocbogeoffeolaaGreatDoor
open Go.RowKit

/-- The k-th Op of a script, with what its texts, numbers and entries are. -/
structure OpAt2 (w : World) (b o : Nat) (kind W N M K : Int) (S T : ByteArray) (aL : Option Addr) (nL cL : Nat) (made : Bool) : Prop where
  c : OpAt w b o kind W N M K S T aL nL cL made
  o : OpB N M K W S T
  l : LOk w (.slice aL nL cL)
theorem OpAt2.below {w w' : World} {b o : Nat} {kind W N M K : Int} {S T : ByteArray} {aL : Option Addr} {nL cL : Nat} {made : Bool} (h : OpAt2 w b o kind W N M K S T aL nL cL made) (hb : Below w.heap.size w w') : OpAt2 w' b o kind W N M K S T aL nL cL made := ⟨h.c.below hb, h.o, h.l.below hb⟩
/-- A script: so many Ops, one behind the other. -/
def ScriptAt2 (w : World) (a : Option Addr) (n : Nat) : Prop :=
  ∀ k, k < n → ∃ b off kind W N M K S T aL nL cL made, a = some ⟨b, off, none⟩ ∧ OpAt2 w b (off + k * 9) kind W N M K S T aL nL cL made

/-- Every step of the kinds from lo to hi is as the document says; X: what is asked of the world in which all began. -/
def StepOK (q r : World → (Nat → Prop) → Nat → St → Prop) (X : World → Prop) (lo hi : Int) : Prop :=
  ∀ (w0 w : World) (B : Nat) (D : Nat → Prop) (va vl vm : Value) (last : Nat) (us : List Value) (ms : List Wd) (es : List (EngG St)) (M : Nat) (kind W N Mm K : Int) (S T : ByteArray) (aL : Option Addr) (nL cL : Nat) (made : Bool),
    X w0 → GG q r w0 w B D va vl vm last us ms es → 1 ≤ es.length → es.length ≤ 10 → OpB N Mm K W S T → LOk w (.slice aL nL cL) → lo ≤ kind → kind ≤ hi → (∀ i (h : i < es.length), szT es[i].ts ≤ M) → M ≤ 16777216 → last ≤ 1073741824 → us.length ≤ 17179869184 →
    Calls Tryz.prog 41 #[.pointer (some ⟨B, 0, none⟩), .agg (opV kind W N Mm K S T (.slice aL nL cL) made)] w fun e w' => e = .returned (.bool true) ∧ NextG q r szT w0 w' B last us es M

section
variable {q r : World → (Nat → Prop) → Nat → St → Prop} {s0 : St}

theorem GG.start (w : World) : GG q r w (w.alloc (.cells #[vNil, vNil, vNil, .int .i64 0] 74)) w.heap.size (fun _ => False) vNil vNil vNil 0 [] [] [] := by
  have hb : Below w.heap.size w (w.alloc (.cells #[vNil, vNil, vNil, .int .i64 0] 74)) := (Below.refl _ _).alloc (Nat.le_refl _) _
  refine ⟨?_, ⟨World.ownsRow_nil _ _ _ _, World.ownsRow_nil _ _ _ _, fun k hk => by simp [vNil, Value.ownBlock] at hk, fun k hk => by simp [vNil, Value.ownBlock] at hk, fun h => h, fun k h => h.elim, fun i u mm h => by simp at h⟩, rfl, World.ownsRow_nil _ _ _ _, fun k hk => by simp [vNil, Value.ownBlock] at hk, fun i hi => by simp at hi, fun i j hi => by simp at hi, hb, Nat.le_refl _, fun k hk => by simp [vNil, Value.ownBlock] at hk, fun k hk => by simp [vNil, Value.ownBlock] at hk, fun k hk => by simp [vNil, Value.ownBlock] at hk, fun k h => h.elim, fun i hi => by simp at hi⟩
  show (w.heap.push _)[w.heap.size]? = _
  rw [Array.getElem?_push, if_pos rfl]; rfl

/-- Between two rounds. -/
def RoundG (q r : World → (Nat → Prop) → Nat → St → Prop) (w0 w : World) (k : Nat) : Prop :=
  ∃ (D : Nat → Prop) (va vl vm : Value) (last : Nat) (us : List Value) (ms : List Wd) (es : List (EngG St)), GG q r w0 w w0.heap.size D va vl vm last us ms es ∧ last ≤ k ∧ us.length ≤ 9 * k ∧ 1 ≤ es.length ∧ es.length ≤ 10 ∧ (∀ i (h : i < es.length), szT es[i].ts ≤ 25 * k)

set_option maxHeartbeats 4000000 in
set_option maxRecDepth 100000 in
theorem plays_any (hp : ProgN q r s0) (hs0 : szT s0 = 0) (X : World → Prop) (lo hi : Int) (hst : StepOK q r X lo hi) (a : Option Addr) (n cap : Nat) (w : World) (hX : X w) (hs : ScriptAt2 w a n) (hn : n ≤ 600000) :
    Calls Tryz.prog 13 #[.slice a n cap, .int .i64 lo, .int .i64 hi] w fun e w' => e = .returned (.bool true) ∧ Below w.heap.size w w' := by
  have HP : Hid (ProgN q r s0) := hp
  have HSc : Hid (ScriptAt2 w a n) := hs
  have HX : Hid (X w) := hX
  have HST : Hid (StepOK q r X lo hi) := hst
  have HS0 : Hid (szT s0 = 0) := hs0
  clear hp hs hX hst hs0
  go_enter Tryz.func13, Tryz.ntmps13
  go_wp2_with fail
  refine (made_anyG HP.out w _ w.heap.size (fun _ => False) vNil vNil vNil 0 [] [] [] (GG.start w) (by simp)).mono ?_
  rintro e w1 ⟨rfl, va', en, hen, hG1⟩
  have HR1 : Hid (RoundG q r w w1 0) := ⟨_, _, _, _, 0, [], [], _, hG1, Nat.le_refl _, by simp, by simp, by simp, fun i hi => by
    have : i = 0 := by simp at hi; omega
    subst this
    simp [hen, HS0.out]⟩
  clear hG1 hen
  go_wp2_with fail
  go_loopw [9] (fun i wr => ∃ k : Nat, k ≤ n ∧ i = .int .i64 k ∧ RoundG q r w wr k) (fun i _ => n - (intOf i).toNat)
  case atStart => exact ⟨0, Nat.zero_le _, rfl, HR1.out⟩
  case round =>
    obtain ⟨k, hk, rfl, hR⟩ := hrel
    obtain ⟨D, va, vl, vm, last, us, ms, es, hG, hl, hu, he1, he10, hbk⟩ := hR
    obtain ⟨av, cv, rfl, hcv⟩ := owns_slice_wide hG.row
    have hc0 : wr.cell? ⟨w.heap.size, 0, none⟩ = some (.slice av es.length cv) := by rw [cell_of_heap hG.heap]; rfl
    have HG : Hid (GG q r w wr w.heap.size D (.slice av es.length cv) vl vm last us ms es) := hG
    have HBK : Hid (∀ i (h : i < es.length), szT es[i].ts ≤ 25 * k) := hbk
    have hbase := hG.base
    clear hG hbk HR1
    by_cases hlt : k < n
    · by_cases hlt10 : es.length < 10
      · obtain ⟨b, off, kind, W, N, M, K, S, T, aL, nL, cL, made, rfl, hop⟩ := HSc.out k hlt
        have hop1 := hop.below hbase
        have HOB : Hid (OpB N M K W S T) := hop1.o
        have HLL : Hid (LOk wr (.slice aL nL cL)) := hop1.l
        obtain ⟨c0, c1, c2, c3, c4, c5, c6, c7, c8, bw0, bw1, bk0, bk1, bs⟩ := hop1.c
        clear hop hop1 hbase
        by_cases hk1 : kind = 1
        · subst hk1
          go_wp2_with fail
          refine (step_newG (sz := szT) HP.out w wr w.heap.size D _ vl vm last us ms es (25 * k) W N M K S T _ made HG.out (by omega) ⟨aL, nL, cL, rfl⟩ HS0.out HBK.out).mono ?_
          rintro e w2 ⟨rfl, D2, va2, vl2, vm2, last2, us2, ms2, es2, hG2, hl2, hu2, he2, he3, hb2⟩
          have hcl : w2.cell? ⟨w.heap.size, 1, none⟩ = some vl2 := by rw [cell_of_heap hG2.heap]; rfl
          have hcm : w2.cell? ⟨w.heap.size, 2, none⟩ = some vm2 := by rw [cell_of_heap hG2.heap]; rfl
          have HG2 : Hid (GG q r w w2 w.heap.size D2 va2 vl2 vm2 last2 us2 ms2 es2) := hG2
          have HB2 : Hid (∀ i (h : i < es2.length), szT es2[i].ts ≤ 25 * k + 25) := hb2
          clear hG2 hb2
          go_wp2_with fail
          refine (kept_any w.heap.size D2 vl2 vm2 us2 ms2 w2 hcl hcm HG2.out.lists HG2.out.len (by omega)).mono ?_
          rintro e w3 ⟨rfl, nq, rfl⟩
          have HR3 : Hid (RoundG q r w (w2.drewN nq) (k + 1)) := ⟨D2, va2, vl2, vm2, last2, us2, ms2, es2, HG2.out.below HP.out (below_drewN (Below.refl _ _) nq), by omega, by omega, by omega, by omega, fun i hi => by have := HB2.out i hi; omega⟩
          clear hcl hcm HG2 HB2 HG HBK
          go_wp2
          go_roundw
          case rel => exact ⟨k + 1, by omega, by go_num, HR3.out⟩
          case measure => simp [intOf]; omega
        · have hb1 : (kind == 1) = false := by simpa using hk1
          clear hk1
          by_cases hin : lo ≤ kind ∧ kind ≤ hi
          · obtain ⟨hin1, hin2⟩ := hin
            have hcall := HST.out w wr w.heap.size D (.slice av es.length cv) vl vm last us ms es (25 * k) kind W N M K S T aL nL cL made HX.out HG.out he1 (by omega) HOB.out HLL.out hin1 hin2 HBK.out (by omega) (by omega) (by omega)
            have HCL : Hid (Calls Tryz.prog 41 #[.pointer (some ⟨w.heap.size, 0, none⟩), .agg (opV kind W N M K S T (.slice aL nL cL) made)] wr fun e w' => e = .returned (.bool true) ∧ NextG q r szT w w' w.heap.size last us es (25 * k)) := hcall
            clear hcall
            go_wp2_with fail
            refine HCL.out.mono ?_
            rintro e w2 ⟨rfl, D2, va2, vl2, vm2, last2, us2, ms2, es2, hG2, hl2, hu2, he2, he3, hb2⟩
            have hcl : w2.cell? ⟨w.heap.size, 1, none⟩ = some vl2 := by rw [cell_of_heap hG2.heap]; rfl
            have hcm : w2.cell? ⟨w.heap.size, 2, none⟩ = some vm2 := by rw [cell_of_heap hG2.heap]; rfl
            have HG2 : Hid (GG q r w w2 w.heap.size D2 va2 vl2 vm2 last2 us2 ms2 es2) := hG2
            have HB2 : Hid (∀ i (h : i < es2.length), szT es2[i].ts ≤ 25 * k + 25) := hb2
            clear hG2 hb2
            go_wp2_with fail
            refine (kept_any w.heap.size D2 vl2 vm2 us2 ms2 w2 hcl hcm HG2.out.lists HG2.out.len (by omega)).mono ?_
            rintro e w3 ⟨rfl, nq, rfl⟩
            have HR3 : Hid (RoundG q r w (w2.drewN nq) (k + 1)) := ⟨D2, va2, vl2, vm2, last2, us2, ms2, es2, HG2.out.below HP.out (below_drewN (Below.refl _ _) nq), by omega, by omega, by omega, by omega, fun i hi => by have := HB2.out i hi; omega⟩
            clear hcl hcm HG2 HB2 HG HBK
            go_wp2
            go_roundw
            case rel => exact ⟨k + 1, by omega, by go_num, HR3.out⟩
            case measure => simp [intOf]; omega
          · have HR3 : Hid (RoundG q r w wr (k + 1)) := ⟨D, _, vl, vm, last, us, ms, es, HG.out, by omega, by omega, he1, by omega, fun i hi => by have := HBK.out i hi; omega⟩
            have hcase : kind < lo ∨ (lo ≤ kind ∧ hi < kind) := by omega
            clear hin
            rcases hcase with hlo2 | ⟨hlo3, hhi⟩
            all_goals
              go_wp2
              go_roundw
              case rel => exact ⟨k + 1, by omega, by go_num, HR3.out⟩
              case measure => simp [intOf]; omega
      · go_wp2
        go_ret
        exact ⟨rfl, hbase⟩
    · go_wp2
      go_ret
      exact ⟨rfl, hbase⟩
end

end Go.Proofs.YtocbogeoffeolaaGreatDoor

namespace Go.Proofs.YtocbogeoffeolaaGreatDoor
open Go.ChangeShapes Go.WideShapes Go.ChangeAt Go.RowKit

theorem Tryz.cellsEnt : Tryz.prog.cellsOf 202 = 5 := by kernel_rfl

theorem bulkAll_app {H : Type} (l r : List (DataW H)) : Rows.uptoBulkAll (l ++ r) = Rows.uptoBulkAll l + Rows.uptoBulkAll r := by
  induction l with
  | nil => simp [Rows.uptoBulkAll]
  | cons x l ih => simp only [List.cons_append, Rows.uptoBulkAll, ih]; omega
theorem bulkAll_mem {H : Type} (l : List (DataW H)) (i : Nat) (d : DataW H) (h : l[i]? = some d) : Rows.uptoBulk d ≤ Rows.uptoBulkAll l := by
  induction l generalizing i with
  | nil => simp at h
  | cons x l ih =>
    cases i with
    | zero => simp at h; subst h; simp only [Rows.uptoBulkAll]; omega
    | succ i => have := ih i (by simpa using h); simp only [Rows.uptoBulkAll]; omega
theorem bulk_sum {H : Type} (D : Nat → DataW H) (g : Nat → Nat) : ∀ n, (∀ i, i < n → g i ≤ Rows.uptoBulk (D i)) → ((List.range n).map g).sum ≤ Rows.uptoBulkAll ((List.range n).map D) := by
  intro n
  induction n with
  | zero => intro _; simp
  | succ n ih =>
    intro h
    have h1 := ih (fun i hi => h i (by omega))
    have h2 := h n (by omega)
    rw [List.range_succ, List.map_append, List.map_append, List.sum_append, bulkAll_app]
    simp only [List.map_cons, List.map_nil, List.sum_cons, List.sum_nil, Rows.uptoBulkAll]
    omega

theorem sum_ones (n : Nat) : ((List.range n).map (fun _ => 1)).sum = n := by
  induction n with
  | zero => rfl
  | succ n ih => rw [List.range_succ, List.map_append, List.sum_append, ih]; rfl
/-- One entry, opened. -/
theorem ent_open {H : Type} {enc : TypeId × Value → H} {w : World} {base : Nat} {spare : Nat → Bool} {held : Bool} {fuel : Nat} {b o : Nat} {cs : List Value} {x : DataW H × List MemPlace}
    (hc : w.cells? base ⟨b, o, none⟩ 5 = some cs) (h : DataW.trod enc Tryz.prog w base spare held fuel 202 cs = some x) :
    ∃ e : Ent, (∀ f u, (entCells e)[f]? = some u → w.cell? ⟨b, o + f, none⟩ = some u) ∧ (-9223372036854775808 ≤ e.weight ∧ e.weight ≤ 9223372036854775807) ∧ (-9223372036854775808 ≤ e.tags ∧ e.tags ≤ 9223372036854775807) ∧ e.name.length + e.text.length + 2 ≤ Rows.uptoBulk x.1 := by
  obtain ⟨xs, n, rfl, hx, hl, hxl, hf⟩ := DataW.trod_struct Tryz.underlying202 h
  obtain ⟨_, hlen, hcell⟩ := World.cells?_some hc
  have hx5 : xs.length = 5 := hxl
  have field : ∀ (i : Nat) (hi : i < 5), ∃ y, xs[i]? = some y := fun i hi => ⟨xs[i], List.getElem?_eq_getElem (by omega)⟩
  have cell : ∀ i, i < 5 → ∀ v, cs[i]? = some v → w.cell? ⟨b, o + i, none⟩ = some v := fun i hi v hv => by
    have := hcell i hi
    rw [Addr.add_lit, hv] at this
    exact this
  obtain ⟨y0, e0⟩ := field 0 (by omega)
  obtain ⟨y1, e1⟩ := field 1 (by omega)
  obtain ⟨y2, e2⟩ := field 2 (by omega)
  obtain ⟨y3, e3⟩ := field 3 (by omega)
  obtain ⟨y4, e4⟩ := field 4 (by omega)
  have f0 : DataW.trod enc Tryz.prog w base spare held n 9 ((cs.drop 0).take (Tryz.prog.cellsOf 9)) = some y0 := (hf 0 _ rfl).trans e0
  have f1 : DataW.trod enc Tryz.prog w base spare held n 4 ((cs.drop 1).take (Tryz.prog.cellsOf 4)) = some y1 := (hf 1 _ rfl).trans e1
  have f2 : DataW.trod enc Tryz.prog w base spare held n 9 ((cs.drop 2).take (Tryz.prog.cellsOf 9)) = some y2 := (hf 2 _ rfl).trans e2
  have f3 : DataW.trod enc Tryz.prog w base spare held n 3 ((cs.drop 3).take (Tryz.prog.cellsOf 3)) = some y3 := (hf 3 _ rfl).trans e3
  have f4 : DataW.trod enc Tryz.prog w base spare held n 3 ((cs.drop 4).take (Tryz.prog.cellsOf 3)) = some y4 := (hf 4 _ rfl).trans e4
  rw [Tryz.cells9] at f0 f2
  rw [Tryz.cells4] at f1
  rw [Tryz.cells3] at f3 f4
  obtain ⟨S, g0, z0, _⟩ := DataW.trod_string Tryz.underlying9 f0
  obtain ⟨B, g1, _⟩ := DataW.trod_bool Tryz.underlying4 f1
  obtain ⟨T, g2, z2, _⟩ := DataW.trod_string Tryz.underlying9 f2
  obtain ⟨W, g3, _, w3⟩ := DataW.trod_int Tryz.underlying3 f3
  obtain ⟨G, g4, _, w4⟩ := DataW.trod_int Tryz.underlying3 f4
  refine ⟨⟨S.data.toList, B, T.data.toList, W, G⟩, fun f u hu => ?_, int_bounds w3, int_bounds w4, ?_⟩
  · match f, hu with
    | 0, hu => simp [entCells] at hu; rw [← hu]; exact cell 0 (by omega) _ (cell_of_drop g0)
    | 1, hu => simp [entCells] at hu; rw [← hu]; exact cell 1 (by omega) _ (cell_of_drop g1)
    | 2, hu => simp [entCells] at hu; rw [← hu]; exact cell 2 (by omega) _ (cell_of_drop g2)
    | 3, hu => simp [entCells] at hu; rw [← hu]; exact cell 3 (by omega) _ (cell_of_drop g3)
    | 4, hu => simp [entCells] at hu; rw [← hu]; exact cell 4 (by omega) _ (cell_of_drop g4)
    | f + 5, hu => simp [entCells] at hu
  · rw [hx]
    simp only [Rows.uptoBulk]
    match xs, hx5, e0, e2 with
    | [a0, a1, a2, a3, a4], _, e0, e2 =>
      simp at e0 e2
      subst e0 e2
      simp only [List.map_cons, List.map_nil, Rows.uptoBulkAll, z0, z2, Rows.uptoBulk]
      omega

set_option maxRecDepth 100000 in
/-- Entries, opened. -/
theorem list_open {H : Type} {enc : TypeId × Value → H} {w : World} {base : Nat} {spare : Nat → Bool} {held : Bool} {fuel : Nat} {cs : List Value} {x : DataW H × List MemPlace}
    (h : DataW.trod enc Tryz.prog w base spare held fuel 75 cs = some x) (hb : Rows.uptoBulk x.1 ≤ 1048576) : ∃ a n c, cs = [.slice a n c] ∧ LOk w (.slice a n c) := by
  rcases Deep.open_slice Tryz.underlying75 h with ⟨hcs, _⟩ | ⟨a, len, cap, m, n, D, Pl, hcs, _, hl, hm, hmm, hx, hel⟩
  · exact ⟨none, 0, 0, hcs, [], ⟨none, 0, rfl, Nat.le_refl _, by unfold maxLen; omega, rfl, fun j u hj => by simp [entVals] at hj⟩, fun e he => by simp at he, by simp, by simp⟩
  · refine ⟨some a, len, cap, hcs, ?_⟩
    have hlm : len ≤ m := by rw [hmm]; split <;> omega
    have hb2 : Rows.uptoBulkAll ((List.range len).map D) ≤ 1048576 := by
      have e1 : x.1 = .slice ((List.range len).map D) ((List.range (m - len)).map fun j => D (len + j)) := congrArg Prod.fst hx
      rw [e1] at hb
      simp only [Rows.uptoBulk] at hb
      omega
    clear hb
    by_cases h0 : len = 0
    · subst h0
      exact ⟨[], ⟨some a, cap, rfl, Nat.zero_le _, hm, rfl, fun j u hj => by simp [entVals] at hj⟩, fun e he => by simp at he, by simp, by simp⟩
    · obtain ⟨b, off, spot⟩ := a
      have hsp : spot = none := by
        obtain ⟨cs0, hc0, _⟩ := hel 0 (by omega)
        rw [Tryz.cellsEnt] at hc0
        obtain ⟨_, hlen, hcell⟩ := World.cells?_some hc0
        have h1 := hcell 0 (by omega)
        rw [List.getElem?_eq_getElem (by omega)] at h1
        simpa [Addr.add] using World.cell?_spot h1
      subst hsp
      have hex : ∀ i, i < len → ∃ e : Ent, (∀ f u, (entCells e)[f]? = some u → w.cell? ⟨b, off + i * 5 + f, none⟩ = some u) ∧ (-9223372036854775808 ≤ e.weight ∧ e.weight ≤ 9223372036854775807) ∧ (-9223372036854775808 ≤ e.tags ∧ e.tags ≤ 9223372036854775807) ∧ e.name.length + e.text.length + 2 ≤ Rows.uptoBulk (D i) := fun i hi => by
        obtain ⟨cs', hc, ht⟩ := hel i (by omega)
        rw [Tryz.cellsEnt, Addr.add_lit] at hc
        exact ent_open hc ht
      obtain ⟨g, hg⟩ : ∃ g : Nat → Ent, ∀ i, i < len → (∀ f u, (entCells (g i))[f]? = some u → w.cell? ⟨b, off + i * 5 + f, none⟩ = some u) ∧ (-9223372036854775808 ≤ (g i).weight ∧ (g i).weight ≤ 9223372036854775807) ∧ (-9223372036854775808 ≤ (g i).tags ∧ (g i).tags ≤ 9223372036854775807) ∧ (g i).name.length + (g i).text.length + 2 ≤ Rows.uptoBulk (D i) :=
        ⟨fun i => if h : i < len then Classical.choose (hex i h) else ⟨[], false, [], 0, 0⟩, fun i hi => by
          simp only [hi, dite_true]
          exact Classical.choose_spec (hex i hi)⟩
      have hmem : ∀ e ∈ (List.range len).map g, ∃ i, i < len ∧ g i = e := fun e he => by
        obtain ⟨i, hi, rfl⟩ := List.mem_map.1 he
        exact ⟨i, List.mem_range.1 hi, rfl⟩
      have hDi : ∀ i, i < len → Rows.uptoBulk (D i) ≤ Rows.uptoBulkAll ((List.range len).map D) := fun i hi => bulkAll_mem _ i _ (by simp [hi])
      refine ⟨(List.range len).map g, ?_, fun e he => ?_, ?_, ?_⟩
      · have hll : ((List.range len).map g).length = len := by simp
        refine ⟨some ⟨b, off, none⟩, cap, by rw [hll], by rw [hll]; exact hl, hm, by rw [entVals_len], fun j u hj => ⟨b, off, rfl, ?_⟩⟩
        have hjl : j < ((List.range len).map g).length * 5 := by
          rw [← entVals_len]
          exact (List.getElem?_eq_some_iff.1 hj).1
        rw [hll] at hjl
        obtain ⟨i, f, hjf, hf5⟩ : ∃ i f, j = i * 5 + f ∧ f < 5 := ⟨j / 5, j % 5, by omega, by omega⟩
        subst hjf
        have hi : i < len := by omega
        rw [entVals_get _ i (by rw [hll]; exact hi) f hf5] at hj
        rw [List.getElem_map, List.getElem_range] at hj
        have := (hg i hi).1 f u hj
        rw [show off + (i * 5 + f) = off + i * 5 + f by omega]
        exact this
      · obtain ⟨i, hi, rfl⟩ := hmem e he
        have h1 := hg i hi
        have h2 := hDi i hi
        exact ⟨by omega, by omega, h1.2.1, h1.2.2.1.1, h1.2.2.1.2⟩
      · rw [List.length_map, List.length_range]
        have h1 := bulk_sum D (fun _ => 1) len (fun i hi => by have := (hg i hi).2.2.2; omega)
        have h2 := sum_ones len
        omega
      · have h1 := bulk_sum D (fun i => (g i).text.length) len (fun i hi => by have := (hg i hi).2.2.2; omega)
        rw [List.map_map]
        have h2 : ((fun e : Ent => e.text.length) ∘ g) = fun i => (g i).text.length := rfl
        rw [h2]
        omega

/-- One Op, opened. -/
theorem op_open2 {H : Type} {enc : TypeId × Value → H} {w : World} {base : Nat} {spare : Nat → Bool} {held : Bool} {fuel : Nat} {b o : Nat} {cs : List Value} {x : DataW H × List MemPlace}
    (hc : w.cells? base ⟨b, o, none⟩ 9 = some cs) (h : DataW.trod enc Tryz.prog w base spare held fuel 77 cs = some x) (hb : Rows.uptoBulk x.1 ≤ 1048576) :
    ∃ kind W N M K S T aL nL cL made, OpAt2 w b o kind W N M K S T aL nL cL made := by
  obtain ⟨xs, n, rfl, hx, hl, hxl, hf⟩ := DataW.trod_struct Tryz.underlying77 h
  obtain ⟨_, hlen, hcell⟩ := World.cells?_some hc
  have hx9 : xs.length = 9 := hxl
  have field : ∀ (i : Nat) (hi : i < 9), ∃ y, xs[i]? = some y := fun i hi => ⟨xs[i], List.getElem?_eq_getElem (by omega)⟩
  have cell : ∀ i, i < 9 → ∀ v, cs[i]? = some v → w.cell? ⟨b, o + i, none⟩ = some v := fun i hi v hv => by
    have := hcell i hi
    rw [Addr.add_lit, hv] at this
    exact this
  obtain ⟨y0, e0⟩ := field 0 (by omega)
  obtain ⟨y1, e1⟩ := field 1 (by omega)
  obtain ⟨y2, e2⟩ := field 2 (by omega)
  obtain ⟨y3, e3⟩ := field 3 (by omega)
  obtain ⟨y4, e4⟩ := field 4 (by omega)
  obtain ⟨y5, e5⟩ := field 5 (by omega)
  obtain ⟨y6, e6⟩ := field 6 (by omega)
  obtain ⟨y7, e7⟩ := field 7 (by omega)
  obtain ⟨y8, e8⟩ := field 8 (by omega)
  have hb7 : Rows.uptoBulk y7.1 ≤ 1048576 := by
    rw [hx] at hb
    simp only [Rows.uptoBulk] at hb
    have := bulkAll_mem (xs.map (·.1)) 7 y7.1 (by rw [List.getElem?_map, e7]; rfl)
    omega
  have f0 : DataW.trod enc Tryz.prog w base spare held n 3 ((cs.drop 0).take (Tryz.prog.cellsOf 3)) = some y0 := (hf 0 _ rfl).trans e0
  have f1 : DataW.trod enc Tryz.prog w base spare held n 3 ((cs.drop 1).take (Tryz.prog.cellsOf 3)) = some y1 := (hf 1 _ rfl).trans e1
  have f2 : DataW.trod enc Tryz.prog w base spare held n 3 ((cs.drop 2).take (Tryz.prog.cellsOf 3)) = some y2 := (hf 2 _ rfl).trans e2
  have f3 : DataW.trod enc Tryz.prog w base spare held n 3 ((cs.drop 3).take (Tryz.prog.cellsOf 3)) = some y3 := (hf 3 _ rfl).trans e3
  have f4 : DataW.trod enc Tryz.prog w base spare held n 3 ((cs.drop 4).take (Tryz.prog.cellsOf 3)) = some y4 := (hf 4 _ rfl).trans e4
  have f5 : DataW.trod enc Tryz.prog w base spare held n 9 ((cs.drop 5).take (Tryz.prog.cellsOf 9)) = some y5 := (hf 5 _ rfl).trans e5
  have f6 : DataW.trod enc Tryz.prog w base spare held n 9 ((cs.drop 6).take (Tryz.prog.cellsOf 9)) = some y6 := (hf 6 _ rfl).trans e6
  have f7 : DataW.trod enc Tryz.prog w base spare held n 75 ((cs.drop 7).take (Tryz.prog.cellsOf 75)) = some y7 := (hf 7 _ rfl).trans e7
  have f8 : DataW.trod enc Tryz.prog w base spare held n 4 ((cs.drop 8).take (Tryz.prog.cellsOf 4)) = some y8 := (hf 8 _ rfl).trans e8
  rw [Tryz.cells3] at f0 f1 f2 f3 f4
  rw [Tryz.cells9] at f5 f6
  rw [Tryz.cells32] at f7
  rw [Tryz.cells4] at f8
  obtain ⟨kind, g0, _, _⟩ := DataW.trod_int Tryz.underlying3 f0
  obtain ⟨W, g1, _, w1⟩ := DataW.trod_int Tryz.underlying3 f1
  obtain ⟨N, g2, _, w2⟩ := DataW.trod_int Tryz.underlying3 f2
  obtain ⟨M, g3, _, w3⟩ := DataW.trod_int Tryz.underlying3 f3
  obtain ⟨K, g4, _, w4⟩ := DataW.trod_int Tryz.underlying3 f4
  obtain ⟨S, g5, _, s5⟩ := DataW.trod_string Tryz.underlying9 f5
  obtain ⟨T, g6, _, s6⟩ := DataW.trod_string Tryz.underlying9 f6
  obtain ⟨aL, nL, cL, g7, hL⟩ := list_open f7 hb7
  obtain ⟨made, g8, _⟩ := DataW.trod_bool Tryz.underlying4 f8
  have b1 := int_bounds w1
  have b2 := int_bounds w2
  have b3 := int_bounds w3
  have b4 := int_bounds w4
  exact ⟨kind, W, N, M, K, S, T, aL, nL, cL, made, ⟨cell 0 (by omega) _ (cell_of_drop g0), cell 1 (by omega) _ (cell_of_drop g1), cell 2 (by omega) _ (cell_of_drop g2), cell 3 (by omega) _ (cell_of_drop g3), cell 4 (by omega) _ (cell_of_drop g4), cell 5 (by omega) _ (cell_of_drop g5), cell 6 (by omega) _ (cell_of_drop g6), cell 7 (by omega) _ (cell_of_drop g7), cell 8 (by omega) _ (cell_of_drop g8), b1.1, b1.2, b4.1, b4.2, s5⟩, ⟨b2.1, b2.2, b3.1, b3.2, b4.1, b4.2, b1.1, b1.2, s5, s6⟩, hL⟩

end Go.Proofs.YtocbogeoffeolaaGreatDoor

