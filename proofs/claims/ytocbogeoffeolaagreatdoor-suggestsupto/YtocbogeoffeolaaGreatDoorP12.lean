/-
  WALKS: the program's own: Suggest; the program is as it is asked.
-/
import Derived.Test.YtocbogeoffeolaaGreatDoorP11
import Derived.Test.YtocbogeoffeolaaGreatDoorP7
import Derived.Test.YtocbogeoffeolaaGreatDoorW17
namespace Go.Proofs.YtocbogeoffeolaaGreatDoor
open Go.RowKit Go.Maps

set_option maxHeartbeats 400000 in
theorem told_any (most : Int) (w : World) : Calls Tryz.prog 47 #[.int .i64 most] w fun e w' => e = .returned (.bool (decide (1 ≤ most ∧ most ≤ 20))) ∧ w = w' := by
  by_cases h1 : 1 ≤ most
  · by_cases h2 : most ≤ 20
    · rw [decide_eq_true ⟨h1, h2⟩]
      go_enter Tryz.func47, Tryz.ntmps47
      go_wp2
      go_ret
      exact ⟨ret_bool (by simp), rfl⟩
    · rw [decide_eq_false (fun h => h2 h.2)]
      go_enter Tryz.func47, Tryz.ntmps47
      go_wp2
      go_ret
      exact ⟨ret_bool (by simp), rfl⟩
  · rw [decide_eq_false (fun h => h1 h.1)]
    go_enter Tryz.func47, Tryz.ntmps47
    go_wp2
    go_ret
    exact ⟨ret_bool (by simp), rfl⟩

set_option maxHeartbeats 1000000 in
set_option maxRecDepth 100000 in
theorem suggest_any (w : World) (F : Nat → Prop) (b : Nat) (ts : List (List Wd)) (s : ByteArray) (most : Int) (hW : WOk w) (hP : PE w F b ts) (hB : bulkT ts ≤ 16777216) (hs : s.size ≤ maxLen) :
    Calls Tryz.prog 35 #[.pointer (some ⟨b, 0, none⟩), .string s, .int .i64 most] w fun e w' => ∃ v, e = .returned (.tuple #[v, .int .i64 (sugL ts s.data.toList most).2]) ∧
      w'.ownsRow w.heap.size 9 1 v (sugL ts s.data.toList most).1.length (strVals (sugL ts s.data.toList most).1) ∧ Below w.heap.size w w' := by
  have hT := told_any most w
  by_cases h : most < 1 ∨ 20 < most
  · have e : sugL ts s.data.toList most = ([], 3) := by unfold sugL; rw [if_pos h]
    rw [e]
    rw [decide_eq_false (by omega)] at hT
    clear h e
    go_enter Tryz.func35, Tryz.ntmps35
    go_wp2_with fail
    refine hT.mono ?_
    rintro e w' ⟨rfl, rfl⟩
    go_wp2
    go_ret2
    exact ⟨_, rfl, World.ownsRow_nil _ _ _ _, Below.refl _ _⟩
  · rw [decide_eq_true (by omega)] at hT
    have hY := isTyped_any s w hs
    by_cases hq : queryB s.data.toList = true
    · rw [hq] at hY
      obtain ⟨m, rfl⟩ : ∃ m : Nat, most = (m : Int) := ⟨most.toNat, by omega⟩
      have e : sugL ts s.data.toList (m : Int) = (suggestL ts (wordsL (foldL s.data.toList)) m, 0) := by unfold sugL; rw [if_neg h, if_pos hq]; rfl
      rw [e]
      obtain ⟨hq1, hq2⟩ := query_words s hq
      have hwo := wordsOf_any s w.drew hq
      have hm1 : 1 ≤ m := by omega
      have hm2 : m ≤ 20 := by omega
      clear h e hq
      generalize wordsL (foldL s.data.toList) = l at *
      obtain ⟨hF, vB, vS, B, n, vK, kn, hPW⟩ := hP
      have hwo' : Calls Tryz.prog 67 #[.string s] w.drew fun e w1 => ∃ a c, e = .returned (.slice a l.length c) ∧ Below w.heap.size w w1 ∧
          Calls Tryz.prog 68 #[.pointer (some ⟨b, 2, none⟩), .slice a l.length c, .int .i64 (m : Int)] w1 fun e w2 => ∃ a' c', e = .returned (.slice a' (suggestL ts l m).length c') ∧ w2.ownsRow w.heap.size 9 1 (.slice a' (suggestL ts l m).length c') (suggestL ts l m).length (strVals (suggestL ts l m)) ∧ Below w.heap.size w w2 := by
        refine hwo.mono ?_
        rintro e w1 ⟨v, rfl, hown', hb1'⟩
        have hown : w1.ownsRow w.heap.size 9 1 v l.length (strVals l) := hown'
        have hb1 : Below w.heap.size w w1 := ⟨hb1'.os, hb1'.tape, hb1'.output, hb1'.size, hb1'.block⟩
        clear hown' hb1'
        obtain ⟨a, c, rfl, _⟩ := owns_slice hown
        refine ⟨a, c, rfl, hb1, ?_⟩
        refine (next_any F b vB vS ts B n vK kn l _ m w1 (hW.below hb1) (hPW.stay (fun k hk => hb1.block k (hF k hk))) (Rd.of_owns hown) hq1 hq2 hm1 hm2 hB).mono ?_
        rintro e w2 ⟨v2, rfl, hown2, hb2⟩
        obtain ⟨a', c', rfl, _⟩ := owns_slice hown2
        exact ⟨a', c', rfl, owns_mono hown2 hb1.size, hb1.trans (hb2.mono hb1.size)⟩
      clear hwo hq1 hq2 hPW
      go_enter Tryz.func35, Tryz.ntmps35
      go_wp2_with fail
      refine hT.mono ?_
      rintro e w' ⟨rfl, rfl⟩
      go_wp2_with fail
      refine hY.mono ?_
      rintro e w' ⟨rfl, rfl⟩
      clear hT hY
      go_wp2_with fail
      go_region_law (first
        | (go_simp
           go_at_call 67
           refine hwo'.mono ?_
           rintro e w1 ⟨a, c, rfl, hb1, hnext⟩)
        | (go_simp
           go_at_call 68
           refine hnext.mono ?_
           rintro e w2 ⟨a', c', rfl, hown2, hb2⟩))
      all_goals
        go_wp2
        go_ret2
        exact ⟨_, rfl, hown2, hb2⟩
    · have hq' : queryB s.data.toList = false := by simpa using hq
      rw [hq'] at hY
      have e : sugL ts s.data.toList most = ([], 2) := by unfold sugL; rw [if_neg h, if_neg hq]
      rw [e]
      clear h e hq
      go_enter Tryz.func35, Tryz.ntmps35
      go_wp2_with fail
      refine hT.mono ?_
      rintro e w' ⟨rfl, rfl⟩
      go_wp2_with fail
      refine hY.mono ?_
      rintro e w' ⟨rfl, rfl⟩
      go_wp2
      go_ret2
      exact ⟨_, rfl, World.ownsRow_nil _ _ _ _, Below.refl _ _⟩

/-- The program is as it is asked. -/
theorem progOK : ProgOK PE where
  lt h := h.1
  stay h hz hb := ⟨fun k hk => Nat.lt_of_lt_of_le (h.1 k hk) hz, by
    obtain ⟨_, vB, vS, B, n, vK, kn, hW⟩ := h
    exact ⟨vB, vS, B, n, vK, kn, hW.stay hb⟩⟩
  new := new_any
  observe w F b ts s hP hB hs := observe_any w F b ts s hP hB hs
  suggest w F b ts s most hW hP hB hs _ _ := suggest_any w F b ts s most hW hP hB hs

set_option maxHeartbeats 400000 in
/-- The law of words, walked. -/
theorem walkSuggests (a : Option Addr) (n cap : Nat) (w : World) (hW : WOk w) (hs : ScriptAt w a n) (hn : n ≤ 600000) :
    Calls Tryz.prog 5 #[.slice a n cap] w fun e w' => e = .returned (.bool true) ∧ Below w.heap.size w w' := by
  have h := plays_words progOK a n cap w hW hs hn
  go_enter Tryz.func5, Tryz.ntmps5
  go_wp2_with fail
  refine h.mono ?_
  rintro e w' ⟨rfl, hb⟩
  go_wp2
  go_ret
  exact ⟨rfl, hb⟩

end Go.Proofs.YtocbogeoffeolaaGreatDoor
