/-
  WALKS: the program's own: the words of a text are counted.
-/
import Derived.Test.YtocbogeoffeolaaGreatDoorP5
import Derived.Test.YtocbogeoffeolaaGreatDoorP3
namespace Go.Proofs.YtocbogeoffeolaaGreatDoor
open Go.RowKit Go.Maps

/-- Texts whose words are words. -/
def OkT (ts : List (List Wd)) : Prop := ∀ t ∈ ts, ∀ x ∈ t, x ≠ [] ∧ x.length ≤ 24

/-- The program's engine, as far as words go: its two other fields are as they are. -/
structure PW (w : World) (F : Nat → Prop) (b : Nat) (vB vS : Value) (ts : List (List Wd)) (B n : Nat) (vK : Value) (kn : List Wd) : Prop where
  blk : w.heap[b]? = some (.cells #[vB, vS, .map (some B), vK] 90 (0, 0))
  fb : F b
  fB : F B
  cnt : CntMap w B n (cntW ts)
  room : n ≤ 8 * bulkT ts
  row : w.ownsRow 0 9 1 vK kn.length (strVals kn)
  frow : ∀ k, vK.ownBlock = some k → F k
  perm : kn.Perm (knownL ts)
  ok : OkT ts
  few : kn.length ≤ 60

theorem PW.known {w : World} {F : Nat → Prop} {b : Nat} {vB vS : Value} {ts : List (List Wd)} {B n : Nat} {vK : Value} {kn : List Wd} (h : PW w F b vB vS ts B n vK kn) (x : Wd) : cntW ts [x] = 0 ↔ x ∉ kn := by
  rw [known_cnt, h.perm.mem_iff]

/-- On the way: the runs of P are counted besides. -/
structure AddS (w wr : World) (F : Nat → Prop) (b : Nat) (vB vS : Value) (ts : List (List Wd)) (B n : Nat) (vK : Value) (kn : List Wd) (base : Nat) (v : Value) (t : List Wd) (P : List (List Wd)) : Prop where
  blk : wr.heap[b]? = some (.cells #[vB, vS, .map (some B), vK] 90 (0, 0))
  cnt : CntMap wr B (n + 2 * P.length) (fun ws => cntW ts ws + P.count ws)
  row : wr.ownsRow 0 9 1 vK kn.length (strVals kn)
  frow : ∀ k, vK.ownBlock = some k → Grow F w wr k
  frame : FrameF F w wr
  arg : wr.ownsRow base 9 1 v t.length (strVals t)

theorem cnt_ne_row {w : World} {B n : Nat} {f : List Wd → Nat} (h : CntMap w B n f) {base e m : Nat} {v : Value} {xs : List Value} (ho : w.ownsRow base e 1 v m xs) : v.ownBlock ≠ some B := by
  obtain ⟨D, ⟨es, clock, h1, _⟩, _⟩ := h
  rcases ho.2 with ⟨rfl, _⟩ | ⟨g, cap, cur, rfl, _, hg, _⟩
  · simp [Value.ownBlock]
  · intro he
    simp only [Value.ownBlock, Option.some.injEq] at he
    rw [he, h1] at hg
    cases hg
theorem cnt_ne_blk {w : World} {B n : Nat} {f : List Wd → Nat} (h : CntMap w B n f) {b : Nat} {cs : Array Value} {t : TypeId} {fz : Nat × Nat} (hb : w.heap[b]? = some (.cells cs t fz)) : b ≠ B := by
  obtain ⟨D, ⟨es, clock, h1, _⟩, _⟩ := h
  intro e
  rw [e, h1] at hb
  cases hb

theorem add_start {w w1 w2 : World} {F : Nat → Prop} {b : Nat} {vB vS : Value} {ts : List (List Wd)} {B n : Nat} {vK vK' : Value} {kn kn' : List Wd} {base : Nat} {v : Value} {t : List Wd} (hF : ∀ k, F k → k < w.heap.size) (hP : PW w F b vB vS ts B n vK kn)
    (hv : w.ownsRow base 9 1 v t.length (strVals t)) (hvF : ∀ k, v.ownBlock = some k → ¬ F k) (hb1 : Below w.heap.size w w1) (ho : w2.ownsRow 0 9 1 vK' kn'.length (strVals kn')) (hg : w1.grownBy w2 vK.ownBlock) (hblk : vK'.ownBlock = vK.ownBlock ∨ vK'.ownBlock = some w1.heap.size) :
    w2.heap[b]? = some (.cells #[vB, vS, .map (some B), vK] 90 (0, 0)) ∧ AddS w (w2.setCell ⟨b, 3, none⟩ vK') F b vB vS ts B n vK' kn' base v t [] := by
  have hz1 := hb1.size
  have hz2 := hg.size
  have hold : ∀ k, k < w.heap.size → some k ≠ vK.ownBlock → w2.heap[k]? = w.heap[k]? := fun k hk hne => by rw [hg.block k (by omega) hne, hb1.block k hk]
  have hbz := hF b hP.fb
  have hBz := hF B hP.fB
  have hb2 : w2.heap[b]? = some (.cells #[vB, vS, .map (some B), vK] 90 (0, 0)) := by rw [hold b hbz (fun e => blk_ne hP.blk hP.row (by decide) e.symm)]; exact hP.blk
  have hsz : (w2.setCell ⟨b, 3, none⟩ vK').heap.size = w2.heap.size := by simp [World.setCell]
  have hfar : ∀ k, k ≠ b → (w2.setCell ⟨b, 3, none⟩ vK').heap[k]? = w2.heap[k]? := fun k hk => Below.heap_setCell _ _ _ _ hk
  refine ⟨hb2, ⟨by rw [heap_set hb2]; rfl, ?_, ?_, ?_, ?_, ?_⟩⟩
  · refine (hP.cnt.stay ?_).mono (by simp) (fun ws _ => by simp)
    rw [hfar B (fun e => cnt_ne_blk hP.cnt hP.blk e.symm), hold B hBz (fun e => cnt_ne_row hP.cnt hP.row e.symm)]
  · refine owns_stay ho (fun k hk => hfar k (fun e => ?_))
    subst e
    exact blk_ne hb2 ho (by decide) hk
  · intro k hk
    rcases hblk with h | h
    · exact Or.inl (hP.frow k (by rw [← h]; exact hk))
    · rw [h] at hk
      simp only [Option.some.injEq] at hk
      have := (ho.lt k (by rw [h, hk])).2
      exact Or.inr ⟨by omega, by omega⟩
  · refine ⟨hg.os.trans hb1.os, hg.tape.trans hb1.tape, hg.output.trans hb1.output, by omega, fun k hk hn => ?_⟩
    rw [hfar k (fun e => hn (by rw [e]; exact hP.fb))]
    exact hold k hk (fun e => hn (hP.frow k e.symm))
  · refine owns_stay hv (fun k hk => ?_)
    have hkF := hvF k hk
    have hk2 := (hv.lt k hk).2
    rw [hfar k (fun e => hkF (by rw [e]; exact hP.fb)), hold k hk2 (fun e => hkF (hP.frow k e.symm))]

theorem add_step {w wr w3 w4 : World} {F : Nat → Prop} {b : Nat} {vB vS : Value} {ts : List (List Wd)} {B n : Nat} {vK : Value} {kn : List Wd} {base : Nat} {v : Value} {t : List Wd} {P : List (List Wd)} (hS : AddS w wr F b vB vS ts B n vK kn base v t P) (hFB : F B)
    (hb3 : Below wr.heap.size wr w3) (ws : List Wd) (hc4 : CntMap w4 B (n + 2 * P.length + 2) (fun x => if x = ws then cntW ts ws + P.count ws + 1 else cntW ts x + P.count x)) (hg4 : w3.grownBy w4 (some B)) :
    AddS w w4 F b vB vS ts B n vK kn base v t (P ++ [ws]) := by
  have hz3 := hb3.size
  have hz4 := hg4.size
  have hold : ∀ k, k < wr.heap.size → k ≠ B → w4.heap[k]? = wr.heap[k]? := fun k hk hne => by rw [hg4.block k (by omega) (by simpa using hne), hb3.block k hk]
  have hbz : b < wr.heap.size := (Array.getElem?_eq_some_iff.1 hS.blk).1
  refine ⟨?_, ?_, ?_, ?_, ?_, ?_⟩
  · rw [hold b hbz (cnt_ne_blk hS.cnt hS.blk)]; exact hS.blk
  · refine hc4.mono (by simp; omega) (fun x _ => ?_)
    show (if x = ws then cntW ts ws + P.count ws + 1 else cntW ts x + P.count x) = cntW ts x + (P ++ [ws]).count x
    rw [List.count_append]
    by_cases e : x = ws
    · subst e; simp; omega
    · rw [if_neg e, List.count_singleton]
      have : (ws == x) = false := by simpa using fun h => e h.symm
      rw [this]
      simp
  · exact owns_stay hS.row (fun k hk => hold k (hS.row.lt k hk).2 (fun e => cnt_ne_row hS.cnt hS.row (by rw [hk, e])))
  · intro k hk
    rcases hS.frow k hk with h | h
    · exact Or.inl h
    · exact Or.inr ⟨h.1, by omega⟩
  · refine hS.frame.trans (G := fun k => k = B) ⟨hg4.os.trans hb3.os, hg4.tape.trans hb3.tape, hg4.output.trans hb3.output, by omega, fun k hk hn => hold k hk hn⟩ (fun i _ hi => by subst hi; exact hFB)
  · exact owns_stay hS.arg (fun k hk => hold k (hS.arg.lt k hk).2 (fun e => cnt_ne_row hS.cnt hS.arg (by rw [hk, e])))

theorem add_done {w wr : World} {F : Nat → Prop} {b : Nat} {vB vS : Value} {ts : List (List Wd)} {B n : Nat} {vK vK' : Value} {kn kn' : List Wd} {base : Nat} {v : Value} {t : List Wd} (hP : PW w F b vB vS ts B n vK kn) (hS : AddS w wr F b vB vS ts B n vK' kn' base v t (runsTo t t.length))
    (hk : kn'.Perm (knownL (ts ++ [t]))) (ht : ∀ x ∈ t, x ≠ [] ∧ x.length ≤ 24) (h60 : ¬ 60 < (knownL (ts ++ [t])).length) : PW wr (Grow F w wr) b vB vS (ts ++ [t]) B (n + 2 * (runsTo t t.length).length) vK' kn' where
  blk := hS.blk
  fb := Or.inl hP.fb
  fB := Or.inl hP.fB
  cnt := hS.cnt.mono (Nat.le_refl _) (fun ws hr => by
    show cntW ts ws + (runsTo t t.length).count ws = _
    rw [runs_all t ws hr.1, cntW_snoc])
  room := by
    have h1 := hP.room
    have h2 := runsTo_len t t.length
    have : bulkT (ts ++ [t]) = bulkT ts + (t.length + 1) := by simp [bulkT]
    omega
  row := hS.row
  frow := hS.frow
  perm := hk
  ok := by
    intro x hx
    rcases List.mem_append.1 hx with h | h
    · exact hP.ok x h
    · simp at h; subst h; exact ht
  few := by rw [hk.length_eq]; omega

set_option maxHeartbeats 2000000 in
set_option maxRecDepth 100000 in
theorem add_any (F : Nat → Prop) (b : Nat) (vB vS : Value) (ts : List (List Wd)) (B n : Nat) (vK : Value) (kn : List Wd) (t : List Wd) (base : Nat) (v : Value) (w : World) (hF : ∀ k, F k → k < w.heap.size) (hP : PW w F b vB vS ts B n vK kn)
    (hv : w.ownsRow base 9 1 v t.length (strVals t)) (hvF : ∀ k, v.ownBlock = some k → ¬ F k) (ht : ∀ x ∈ t, x ≠ [] ∧ x.length ≤ 24) (hl : t.length ≤ 24) (hB : bulkT ts ≤ 16777216) :
    Calls Tryz.prog 66 #[.pointer (some ⟨b, 2, none⟩), v] w fun e w' =>
      (60 < (knownL (ts ++ [t])).length ∧ e = .returned (.bool false) ∧ Below w.heap.size w w') ∨
      (¬ 60 < (knownL (ts ++ [t])).length ∧ e = .returned (.bool true) ∧ (∃ n' vK' kn', PW w' (Grow F w w') b vB vS (ts ++ [t]) B n' vK' kn') ∧ FrameF F w w') := by
  obtain ⟨av, cv, rfl, hcv⟩ := owns_slice hv
  obtain ⟨aK, cK, rfl, hcK⟩ := owns_slice hP.row
  have hkn := (known_next kn ts t hP.perm).length_eq
  rw [List.length_append] at hkn
  have hnl := (newTo_ok kn t t.length (Nat.le_refl _)).2.2
  have hfew := hP.few
  have hc2 : w.cell? ⟨b, 2, none⟩ = some (.map (some B)) := by rw [cell_of_heap hP.blk]; rfl
  have hc3 : w.cell? ⟨b, 3, none⟩ = some (.slice aK kn.length cK) := by rw [cell_of_heap hP.blk]; rfl
  obtain ⟨i0, hi, hz0, hz1, hz2⟩ := info_parts Tryz.info9
  go_enter Tryz.func66, Tryz.ntmps66
  go_wp2_with fail
  refine (unknown_any b 2 B n (cntW ts) kn _ t w hc2 hP.cnt (Rd.of_owns hv) ht (fun x _ => hP.known x) (by omega)).mono ?_
  rintro e w1 ⟨u, rfl, hu, hb1⟩
  obtain ⟨au, cu, rfl, hcu⟩ := owns_slice hu
  have hc3' := cell_later hb1 hc3
  by_cases h60 : 60 < (knownL (ts ++ [t])).length
  · have HK : Hid (60 < (knownL (ts ++ [t])).length) := h60
    have h60' : 60 < (kn.length : Int) + ((newTo kn t t.length).length : Int) := by omega
    clear h60 hkn
    go_wp2
    go_ret
    exact Or.inl ⟨HK.out, rfl, hb1⟩
  · have HK : Hid (¬ 60 < (knownL (ts ++ [t])).length) := h60
    have h60' : (kn.length : Int) + ((newTo kn t t.length).length : Int) ≤ 60 := by omega
    have hfz : w1.frozen? ⟨b, 3, none⟩ = false := by
      have : w1.heap[b]? = _ := (hb1.block b (hF b hP.fb)).trans hP.blk
      exact frozen_of_heap this 3
    have hK1 := owns_below hP.row hb1
    clear h60
    go_wp2_with (first
      | (at_builtin; refine wpList_append_full _ rfl _ _ 31 rfl 0 9 i0 (.string ⟨#[]⟩) 16 Tryz.underlying31 hi hz0 hz1 hz2 rfl _ _ _ rfl hK1 _ (strVals (newTo kn t t.length)) rfl (Rd.of_owns hu) strVals_one ?c1 ?c2 (Nat.zero_le _) ?_))
    case c1 => rw [strVals_length]; omega
    case c2 => rw [strVals_length]; unfold maxLen; omega
    intro vK' w2 hown2 hg2 hblk2
    have hown2' : w2.ownsRow 0 9 1 vK' (kn ++ newTo kn t t.length).length (strVals (kn ++ newTo kn t t.length)) := by
      rw [strVals_length] at hown2
      have e1 : strVals (kn ++ newTo kn t t.length) = strVals kn ++ strVals (newTo kn t t.length) := by simp [strVals]
      rw [e1, List.length_append]
      exact hown2
    obtain ⟨hbk2, hS0⟩ := add_start hF hP hv hvF hb1 hown2' hg2 hblk2
    obtain ⟨aK', cK', rfl, hcK'⟩ := owns_slice hown2'
    have hc2w : w2.cell? ⟨b, 3, none⟩ = some (.slice aK kn.length cK) := by rw [cell_of_heap hbk2]; rfl
    have hf2w : w2.frozen? ⟨b, 3, none⟩ = false := frozen_of_heap hbk2 3
    have HKP := (known_next kn ts t hP.perm)
    have HP : Hid (PW w F b vB vS ts B n (.slice aK kn.length cK) kn) := hP
    clear hP hbk2 hK1 hown2 hg2 hblk2 hu hc3 hc3' hv
    generalize kn ++ newTo kn t t.length = kn' at *
    go_wp2_with fail
    go_loopw [6] (fun i wr => ∃ e : Nat, e ≤ t.length ∧ i = .int .i64 ((e : Int) + 1) ∧ AddS w wr F b vB vS ts B n (.slice aK' kn'.length cK') kn' base (.slice av t.length cv) t (runsTo t e)) (fun i _ => t.length + 1 - (intOf i).toNat)
    case atStart => exact ⟨0, Nat.zero_le _, by simp, hS0⟩
    case round =>
      obtain ⟨e, he, rfl, hS⟩ := hrel
      by_cases hlt : e < t.length
      · have hd : decide ((e : Int) + 1 ≤ (t.length : Int)) = true := by simp; omega
        go_wp2_with fail
        go_loopw [7] (fun i wx => ∃ q : Nat, q ≤ min (e + 1) 3 + 1 ∧ i = .int .i64 (e + 1 - min (e + 1) 3 + q : Nat) ∧ AddS w wx F b vB vS ts B n (.slice aK' kn'.length cK') kn' base (.slice av t.length cv) t (runsTo t e ++ (endRuns t (e + 1)).take q)) (fun i _ => e + 2 - (intOf i).toNat)
        case atStart => exact ⟨0, Nat.zero_le _, by congr 1; omega, by simpa using hS⟩
        case round =>
          obtain ⟨q, hq, rfl, hSx⟩ := hrel
          obtain ⟨bg, hbg⟩ : ∃ bg, bg = e + 1 - min (e + 1) 3 + q := ⟨_, rfl⟩
          have HBG : Hid (bg = e + 1 - min (e + 1) 3 + q) := hbg
          rw [← hbg]
          by_cases hle : bg ≤ e + 1
          · have hcm : wr.cell? ⟨b, 2, none⟩ = some (.map (some B)) := by rw [cell_of_heap hSx.blk]; rfl
            have hlen : e + 1 ≤ t.length := by omega
            have hr0 : (0 : Int) ≤ (e : Int) + 1 := by omega
            have hr1 : (e : Int) + 1 ≤ (cv : Int) := by omega
            have hRd : Rd wr (.slice (if cv = bg then av else Option.map (fun x => x.add bg) av) (e + 1 - bg) (cv - bg)) (strVals ((t.take (e + 1)).drop bg)) :=
              ((Rd.of_owns hSx.arg).take_str (e + 1) hlen).drop_str bg (by simp; omega)
            obtain ⟨ws, hws⟩ : ∃ ws, ws = (t.take (e + 1)).drop bg := ⟨_, rfl⟩
            have h3 : ws.length ≤ 3 := by rw [hws]; simp; omega
            have hrun : IsRun ws := ⟨h3, fun x hx => ht x (by rw [hws] at hx; exact List.mem_of_mem_take (List.mem_of_mem_drop hx))⟩
            have HER : Hid ((endRuns t (e + 1)).take (q + 1) = (endRuns t (e + 1)).take q ++ [ws]) := by
              show _ = _
              have hq2 : q < (endRuns t (e + 1)).length := by rw [endRuns_len]; omega
              rw [List.take_succ_eq_append_getElem hq2, endRuns_get, ← hbg, hws]
            rw [← hws] at hRd
            clear hws
            obtain ⟨P, hPd⟩ : ∃ P, P = runsTo t e ++ (endRuns t (e + 1)).take q := ⟨_, rfl⟩
            rw [← hPd] at hSx
            have hPl : P.length ≤ 4 * 24 + 4 := by
              rw [hPd, List.length_append]
              have := runsTo_len t e
              have : ((endRuns t (e + 1)).take q).length ≤ 4 := by have := endRuns_len t (e + 1); simp; omega
              omega
            have hPc := List.count_le_length (a := ws) (l := P)
            have HPD : Hid (P = runsTo t e ++ (endRuns t (e + 1)).take q) := hPd
            obtain ⟨c, hc⟩ : ∃ c, c = cntW ts ws + P.count ws := ⟨_, rfl⟩
            have hcl := cntW_le ts ws
            have hcb : c ≤ 16777400 := by omega
            have hroom := HP.out.room
            have hwr : IntKind.u64.wrap ((c : Int) + 1) = (c : Int) + 1 := by rw [IntKind.wrap_u64]; omega
            have HSX := hSx
            have hcnt := hSx.cnt
            have hcall : Calls Tryz.prog 93 #[.slice (if cv = bg then av else Option.map (fun x => x.add bg) av) (e + 1 - bg) (cv - bg)] wr.drew fun e' w3 => e' = .returned (keyV ws) ∧ Below wr.heap.size wr w3 ∧ w3.cell? ⟨b, 2, none⟩ = some (.map (some B)) ∧
                (Instr.lookup 86 (.map (some B)) (keyV ws) false).run Tryz.prog w3 = .ok (.int .u64 (c : Int)) w3 ∧
                ∃ (s : Nat) (w4 w5 : World), (Instr.mapEntry 86 (.map (some B)) (keyV ws)).run Tryz.prog w3 = .ok (.tuple #[.int .u64 (c : Int), .int .i64 (s : Int)]) w4 ∧ (Instr.lookup 86 (.map (some B)) (keyV ws) false).run Tryz.prog w4 = .ok (.int .u64 (c : Int)) w4 ∧
                (Instr.entryStore 86 (.map (some B)) (.int .i64 (s : Int)) (.int .u64 ((c : Int) + 1))).run Tryz.prog w4 = .ok () w5 ∧
                CntMap w5 B (n + 2 * P.length + 2) (fun x => if x = ws then cntW ts ws + P.count ws + 1 else cntW ts x + P.count x) ∧ w3.grownBy w5 (some B) := by
              refine (runOf_any _ ws wr.drew (by exact hRd) h3).mono ?_
              rintro e' w3 ⟨rfl, hb3⟩
              have hb3' : Below wr.heap.size wr w3 := ⟨hb3.os, hb3.tape, hb3.output, hb3.size, hb3.block⟩
              have hC3 := hcnt.below hb3'
              have hlook := hC3.look hrun
              rw [show cntW ts ws + P.count ws = c from hc.symm] at hlook
              obtain ⟨s, w4, hent, hat, hC4, hg4⟩ := hC3.entry hrun (by unfold maxLen; omega) (by show cntW ts ws + P.count ws < _; omega)
              have hlook4 := hC4.look hrun
              rw [show cntW ts ws + P.count ws = c from hc.symm] at hent hlook4
              obtain ⟨w5, hput, hc5, hg5⟩ := hC4.store hrun (by unfold maxLen; omega) hat (c + 1) (by omega)
              rw [Int.natCast_add, Int.natCast_one] at hput
              exact ⟨rfl, hb3', cell_later hb3' hcm, hlook, s, w4, w5, hent, hlook4, hput, by rw [← hc]; exact hc5, hg4.trans hg5⟩
            have HQ : Hid (q + 1 ≤ min (e + 1) 3 + 1) := by show _ ≤ _; omega
            have HB1 : Hid ((bg : Int) + 1 = ((e + 1 - min (e + 1) 3 + (q + 1) : Nat) : Int)) := by show _ = _; omega
            obtain ⟨ad, had⟩ : ∃ ad, (if cv = bg then av else Option.map (fun x => x.add bg) av) = ad := ⟨_, rfl⟩
            rw [had] at hcall
            clear hbg hS hPd hPc hcl hSx hcnt hRd hc
            go_wp2_with fail
            go_region_law (first
              | (go_simp
                 go_at_call 93
                 refine hcall.mono ?_
                 rintro e' w3 ⟨rfl, hb3', hcm3, hlook, s, w4, w5, hent, hlook4, hput, hc5, hg5⟩))
            all_goals
              clear hcall
              go_wp2_with fail
              go_roundw
              case rel => exact ⟨q + 1, HQ.out, by rw [← HB1.out], by rw [HER.out, ← List.append_assoc, ← HPD.out]; exact add_step HSX HP.out.fB hb3' ws hc5 hg5⟩

              case measure => simp [intOf]; omega
          · have HE : Hid (runsTo t e ++ (endRuns t (e + 1)).take q = runsTo t (e + 1)) := by
              show _ = _
              rw [List.take_of_length_le (by rw [endRuns_len]; omega)]
              rfl
            clear hbg
            go_wp2_with fail
            go_roundw
            case rel => exact ⟨e + 1, by omega, by go_num, by rw [← HE.out]; exact hSx⟩
            case measure => simp [intOf]; omega
      · have ee : e = t.length := by omega
        subst ee
        go_wp2
        go_ret
        exact Or.inr ⟨HK.out, rfl, ⟨_, _, _, add_done HP.out hS HKP ht HK.out⟩, hS.frame⟩

end Go.Proofs.YtocbogeoffeolaaGreatDoor
