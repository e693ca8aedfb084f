/-
  WALKS: the program's own: the words of a text.
-/
import Derived.Test.YtocbogeoffeolaaGreatDoorP1
import Derived.Test.YtocbogeoffeolaaGreatDoorSh
import Derived.Test.YtocbogeoffeolaaGreatDoorMaths
import Derived.Test.YtocbogeoffeolaaGreatDoorApp
namespace Go.Proofs.YtocbogeoffeolaaGreatDoor
open Go.RowKit

theorem ofNat_byte (x : Nat) (h : x < 128) : ((UInt8.ofNat x).toNat : Int) = (x : Int) := by
  rw [UInt8.toNat_ofNat']; omega

set_option maxHeartbeats 400000 in
set_option maxRecDepth 100000 in
theorem apart_any (x : Nat) (hx : x ≤ 1114111) (W : World) : FnGives Tryz.prog 136 #[] #[encR x] (.bool (apartR x)) W := by
  show Calls Tryz.prog 136 #[.int .i32 (x : Int)] W _
  by_cases h : x < 128
  · have hn : (decide (128 ≤ (x : Int))) = false := by simp; omega
    have hr : apartR x = !letterB (UInt8.ofNat x) := by unfold apartR; rw [decide_eq_false (by omega)]; rfl
    have hc : IntKind.u8.wrap (x : Int) = ((UInt8.ofNat x).toNat : Int) := by rw [ofNat_byte x h, IntKind.wrap_u8]; omega
    rw [hr]
    generalize UInt8.ofNat x = c at *
    clear hr
    go_enter Tryz.func136, Tryz.ntmps136
    go_wp2_with fail
    refine (wordByte_any c _).mono ?_
    rintro e w' ⟨rfl, rfl⟩
    go_wp2
    go_ret
    exact ⟨rfl, 0, rfl⟩
  · have hr : apartR x = true := by unfold apartR; rw [decide_eq_true (by omega)]; rfl
    rw [hr]
    clear hr
    go_enter Tryz.func136, Tryz.ntmps136
    go_wp2
    go_ret
    exact ⟨rfl, 0, rfl⟩

theorem Tryz.infoSp : (Tryz.prog.info? (Tryz.lays229_ren.t 154)).map (fun i => (i.zero, i.size, i.bytes)) = some (some (.agg #[.int .i64 0, .int .i64 0]), 2, 16) := by kernel_rfl

set_option maxHeartbeats 400000 in
set_option maxRecDepth 100000 in
theorem pwords_any (f : ByteArray) (w : World) (hf : ∀ k (h : k < f.size), (f[k]'h).toNat < 128) (hs : f.size ≤ 4294967296) :
    Calls Tryz.prog 94 #[.string f] w fun e w' => ∃ v, e = .returned v ∧ w'.ownsRow w.heap.size 9 1 v (wordsL f.data.toList).length (strVals (wordsL f.data.toList)) ∧ Below w.heap.size w w' := by
  have hcon := Any.strings_FieldsFunc_runes Tryz.lays229 136 #[] (enters_of Tryz.func136 (by kernel_rfl) rfl) apartR f w hs (fun W x hx _ => apart_any x hx W) Tryz.infoSp Tryz.info9
  rw [fields_words f hf, map_strings, List.length_map] at hcon
  change Calls Tryz.prog 135 _ _ _ at hcon
  go_enter Tryz.func94, Tryz.ntmps94
  go_wp2_with (go_at_call 135; refine hcon.mono ?_; rintro e w' ⟨A, rfl, hA, hown, hb⟩)
  go_ret
  exact ⟨_, rfl, hown, hb⟩

theorem fold_ascii (s : ByteArray) (hq : queryB s.data.toList = true) : ∀ k (h : k < (⟨(foldL s.data.toList).toArray⟩ : ByteArray).size), ((⟨(foldL s.data.toList).toArray⟩ : ByteArray)[k]'h).toNat < 128 := by
  intro k h
  have hm : (⟨(foldL s.data.toList).toArray⟩ : ByteArray)[k]'h ∈ foldL s.data.toList := mem_get _ k h
  generalize (⟨(foldL s.data.toList).toArray⟩ : ByteArray)[k]'h = x at hm ⊢
  unfold foldL at hm
  obtain ⟨c, hc, rfl⟩ := List.mem_map.1 hm
  simp only [queryB, Bool.and_eq_true] at hq
  have hp := List.all_eq_true.1 hq.2 c hc
  simp only [plainB, decide_eq_true_eq] at hp
  unfold lowB
  split
  · rw [UInt8.toNat_add]
    have : (32 : UInt8).toNat = 32 := rfl
    omega
  · omega

set_option maxHeartbeats 400000 in
set_option maxRecDepth 100000 in
theorem wordsOf_any (s : ByteArray) (w : World) (hq : queryB s.data.toList = true) :
    Calls Tryz.prog 67 #[.string s] w fun e w' => ∃ v, e = .returned v ∧ w'.ownsRow w.heap.size 9 1 v (wordsL (foldL s.data.toList)).length (strVals (wordsL (foldL s.data.toList))) ∧ Below w.heap.size w w' := by
  have hs : s.size ≤ 24 := by
    have : s.data.toList.length ≤ 24 := by simp only [queryB, Bool.and_eq_true, decide_eq_true_eq] at hq; exact hq.1
    simpa using this
  have hfa := fold_ascii s hq
  have hfs : (⟨(foldL s.data.toList).toArray⟩ : ByteArray).size ≤ 4294967296 := by
    show (foldL s.data.toList).length ≤ _
    rw [foldL_length]
    have : s.data.toList.length = s.size := by simp
    omega
  clear hq
  go_enter Tryz.func67, Tryz.ntmps67
  go_wp2_with fail
  refine (pfold_any s w (by omega)).mono ?_
  rintro e w1 ⟨rfl, hb1⟩
  go_wp2_with fail
  refine (pwords_any _ w1 hfa hfs).mono ?_
  rintro e w2 ⟨v, rfl, hown, hb2⟩
  go_wp2
  go_ret
  refine ⟨_, rfl, owns_mono hown hb1.size, hb1.trans (hb2.mono hb1.size)⟩

end Go.Proofs.YtocbogeoffeolaaGreatDoor
