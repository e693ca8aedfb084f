/-
  THE LISTS THAT CAME OUT, as their owner wrote them full (hintlaw's World): what they say, and where they lie.
-/
import Derived.Test.YtocbogeoffeolaaGreatDoorHeap
namespace Go.Proofs.YtocbogeoffeolaaGreatDoor
open Go.RowKit

def mVal (m : Wd) : Value := .string ⟨m.toArray⟩
/-- A list that reads as its mark, again and again. -/
def MarkIs (w : World) (D : Nat → Prop) (u : Value) (m : Wd) : Prop := ∃ n, Rd w u (List.replicate n (mVal m)) ∧ ∀ k, u.ownBlock = some k → D k

/-- B: the block of hintlaw's World. D: the blocks in which the lists lie. -/
structure Lists (w : World) (D : Nat → Prop) (B : Nat) (vl vm : Value) (us : List Value) (ms : List Wd) : Prop where
  ol : w.ownsRow 0 31 1 vl us.length us
  om : w.ownsRow 0 9 1 vm ms.length (strVals ms)
  dl : ∀ k, vl.ownBlock = some k → ¬ D k
  dm : ∀ k, vm.ownBlock = some k → ¬ D k
  dB : ¬ D B
  dlt : ∀ k, D k → k < w.heap.size
  each : ∀ (i : Nat) (u : Value) (mm : Wd), us[i]? = some u → ms[i]? = some mm → MarkIs w D u mm

theorem MarkIs.stay {w w' : World} {D D' : Nat → Prop} {u : Value} {m : Wd} (h : MarkIs w D u m) (hb : ∀ k, D k → w'.heap[k]? = w.heap[k]?) (hD : ∀ k, D k → D' k) : MarkIs w' D' u m := by
  obtain ⟨n, ⟨a, cap, rfl, h1, h2, hr⟩, hf⟩ := h
  refine ⟨n, ⟨a, cap, rfl, h1, h2, fun j v hj => ?_⟩, fun k hk => hD k (hf k hk)⟩
  obtain ⟨b, off, rfl, hc⟩ := hr j v hj
  refine ⟨b, off, rfl, ?_⟩
  rw [World.cell?_of_block (w := w) (hb b (hf b rfl))]; exact hc

theorem repl_get (n : Nat) (m : Wd) (j : Nat) (h : j < n) : (List.replicate n (mVal m))[j]? = some (mVal m) := by simp [h]

set_option maxHeartbeats 1000000 in
set_option maxRecDepth 100000 in
theorem kept_any (B : Nat) (D : Nat → Prop) (vl vm : Value) (us : List Value) (ms : List Wd) (w : World) (h1 : w.cell? ⟨B, 1, none⟩ = some vl) (h2 : w.cell? ⟨B, 2, none⟩ = some vm) (hL : Lists w D B vl vm us ms) (hlen : us.length = ms.length) (hB : us.length ≤ 1099511627776) :
    Calls Tryz.prog 42 #[.pointer (some ⟨B, 0, none⟩)] w fun e w' => e = .returned (.bool true) ∧ ∃ n, w' = w.drewN n := by
  obtain ⟨hol, hom, _, _, _, _, heach⟩ := hL
  obtain ⟨al, cl, rfl, hcl⟩ := owns_slice hol
  obtain ⟨am, cm, rfl, hcm⟩ := owns_slice hom
  rw [← hlen] at h2 hcm hom
  have HOL : Hid (w.ownsRow 0 31 1 (.slice al us.length cl) us.length us) := hol
  have HOM : Hid (w.ownsRow 0 9 1 (.slice am us.length cm) us.length (strVals ms)) := hom
  have HE : Hid (∀ (i : Nat) (u : Value) (mm : Wd), us[i]? = some u → ms[i]? = some mm → MarkIs w D u mm) := heach
  have HLN : Hid (us.length = ms.length) := hlen
  clear hol hom heach hlen
  go_enter Tryz.func42, Tryz.ntmps42
  go_wp2
  go_loopw [3] (fun i wr => ∃ k m : Nat, k ≤ us.length ∧ i = .int .i64 k ∧ wr = w.drewN m) (fun i _ => us.length - (intOf i).toNat)
  case atStart => exact ⟨0, 0, Nat.zero_le _, rfl, rfl⟩
  case round =>
    obtain ⟨k, m, hk, rfl, rfl⟩ := hrel
    by_cases hlt : k < us.length
    · have hlm : k < ms.length := by have := HLN.out; omega
      have hu : us[k]? = some us[k] := List.getElem?_eq_getElem hlt
      obtain ⟨n, ⟨au, cu, hue, hcu, hmu, hru⟩, _⟩ := HE.out k us[k] ms[k] hu (List.getElem?_eq_getElem hlm)
      rw [hue] at hu
      clear hue
      obtain ⟨bl, ol, rfl, hcl1⟩ := owns_cell HOL.out k _ hu
      obtain ⟨bm, om, rfl, hcm1⟩ := owns_cell HOM.out k _ (strVals_get ms k hlm)
      have HRU : Hid (∀ j u, (List.replicate n (mVal ms[k]))[j]? = some u → ∃ b off, au = some ⟨b, off, none⟩ ∧ w.cell? ⟨b, off + j, none⟩ = some u) := hru
      rw [List.length_replicate] at hcl1 hcu
      unfold maxLen at hmu
      clear hru hu
      generalize ms[k] = mk at *
      go_wp2_with fail
      go_loopw [4] (fun i wr => ∃ q m : Nat, q ≤ n ∧ i = .int .i64 q ∧ wr = w.drewN m) (fun i _ => n - (intOf i).toNat)
      case atStart => exact ⟨0, m, Nat.zero_le _, rfl, rfl⟩
      case round =>
        obtain ⟨q, m, hq, rfl, rfl⟩ := hrel
        by_cases hlq : q < n
        · obtain ⟨bu, ou, rfl, hcu1⟩ := HRU.out q _ (repl_get n mk q hlq)
          unfold mVal at hcu1
          go_wp2_with fail
          go_quiet (fail)
          go_wp2
          go_roundw
          case rel => exact ⟨q + 1, _, by omega, by go_num, rfl⟩
          case measure => simp [intOf]; omega
        · go_wp2
          go_roundw
          case rel => exact ⟨k + 1, _, by omega, by go_num, rfl⟩
          case measure => simp [intOf]; omega
    · go_wp2
      go_ret
      exact ⟨rfl, _, rfl⟩

end Go.Proofs.YtocbogeoffeolaaGreatDoor
