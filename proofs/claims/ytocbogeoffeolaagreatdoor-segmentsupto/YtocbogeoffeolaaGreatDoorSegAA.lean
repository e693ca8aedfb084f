/-
  PLAIN MATHEMATICS of the document's own answer (hintref): bytes, texts, words. Nothing of the program is named here.
  SMALL LAWS of my own on worlds: a slice of the program's own that grows by one element; what a call that makes memory leaves alone.
  WALKS: the document's own answer: letter, IsQuery, Fold.
  WALKS: the document's own answer: starts, Words.
  PLAIN MATHEMATICS: how often words stand behind one another (hintref's count).
  READING A SLICE: 'Rd w v xs': the slice v reads as the cells xs.
  PLAIN MATHEMATICS: all words, in order, each once (hintref's known).
  APPEND of whatever slice reads (nil too) onto a row that is owned: one law.
  PLAIN MATHEMATICS: the score of a word behind others (hintref's score): a fraction.
  WALKS: the document's own answer: score.
  PLAIN MATHEMATICS: which words come first (hintref's Suggest): the best of what is left, again and again.
  WALKS: the document's own answer: Suggest.
  WHAT LIES WHERE: footprints. 'F k': block k belongs to the thing. What a call may turn: blocks of its own footprint, and new ones.
  THE LISTS THAT CAME OUT, as their owner wrote them full (hintlaw's World): what they say, and where they lie.
  WHAT KEEP DOES TO THE LISTS, step by step, said of blocks alone.
  WALKS: hintlaw: keep: a list that came out is written full, and kept.
  APPEND of elements of several cells, and where the row lies behind it.
  WALKS: the program's own: which strings are texts, and their folded form.
-/
import Derived.Below
import Derived.WalkKit
import Derived.WalkSpells
import Derived.Test.YtocbogeoffeolaaGreatDoorProg
import Derived.WalkLawsBesides
import Derived.Deep.Draws
import Derived.WalkSmall
import Derived.Deep.QuietTactic
import Derived.BigQuiet
import Derived.Deep.Light
import Derived.Deep.RegionWith
import Derived.Deep.RegionHeld
import Derived.Deep.CutRange
import Derived.Lib.ConvBytes
import Derived.Laws.IdiomStrings
namespace Go.Proofs.YtocbogeoffeolaaGreatDoor
open Go.RowKit

/-- Is a byte of a word or a name? -/
def letterB (c : UInt8) : Bool := decide ((97 ≤ c.toNat ∧ c.toNat ≤ 122) ∨ (48 ≤ c.toNat ∧ c.toNat ≤ 57))
/-- Is a byte of a text? -/
def plainB (c : UInt8) : Bool := decide (32 ≤ c.toNat ∧ c.toNat ≤ 126)
/-- Is it a query? -/
def queryB (l : List UInt8) : Bool := decide (l.length ≤ 24) && l.all plainB
def lowB (c : UInt8) : UInt8 := if 65 ≤ c.toNat ∧ c.toNat ≤ 90 then c + 32 else c
def foldL (l : List UInt8) : List UInt8 := l.map lowB

theorem take_snoc (s : ByteArray) (k : Nat) (h : k < s.size) : s.data.toList.take (k + 1) = s.data.toList.take k ++ [s[k]] := by
  rw [List.take_succ_eq_append_getElem (by simpa using h)]; rfl

theorem foldL_length (l : List UInt8) : (foldL l).length = l.length := by simp [foldL]
theorem foldL_snoc (l : List UInt8) (c : UInt8) : foldL (l ++ [c]) = foldL l ++ [lowB c] := by simp [foldL]
/-- Bytes as the cells of a row. -/
def byteVals (l : List UInt8) : List Value := l.map fun c => Value.int .u8 c.toNat
theorem byteVals_length (l : List UInt8) : (byteVals l).length = l.length := by simp [byteVals]
theorem byteVals_snoc (l : List UInt8) (c : UInt8) : byteVals (l ++ [c]) = byteVals l ++ [Value.int .u8 c.toNat] := by simp [byteVals]

theorem lowB_up (c : UInt8) (h : 65 ≤ c.toNat ∧ c.toNat ≤ 90) : ((lowB c).toNat : Int) = (c.toNat : Int) + 32 := by
  unfold lowB; rw [if_pos h, UInt8.toNat_add]
  have : (32 : UInt8).toNat = 32 := rfl
  omega
theorem lowB_no (c : UInt8) (h : ¬ (65 ≤ c.toNat ∧ c.toNat ≤ 90)) : lowB c = c := by
  unfold lowB; rw [if_neg h]

/-- Is there the beginning of a word? -/
def startsL (l : List UInt8) (i : Nat) : Bool := letterB (l.getD i 0) && (decide (i = 0) || !letterB (l.getD (i - 1) 0))
/-- The word that begins at a place. -/
def wordAt (l : List UInt8) (i : Nat) : List UInt8 := (l.drop i).takeWhile letterB
/-- The words that begin ahead of a place. -/
def wordsTo (l : List UInt8) (k : Nat) : List (List UInt8) := ((List.range k).filter (startsL l)).map (wordAt l)
/-- The words of a text (folded already). -/
def wordsL (l : List UInt8) : List (List UInt8) := wordsTo l l.length
/-- Texts as the cells of a row. -/
def strVals (ws : List (List UInt8)) : List Value := ws.map fun b => Value.string ⟨b.toArray⟩
theorem strVals_length (ws : List (List UInt8)) : (strVals ws).length = ws.length := by simp [strVals]
theorem strVals_snoc (ws : List (List UInt8)) (b : List UInt8) : strVals (ws ++ [b]) = strVals ws ++ [Value.string ⟨b.toArray⟩] := by simp [strVals]
theorem getD_get (s : ByteArray) (k : Nat) (h : k < s.size) : s.data.toList.getD k 0 = s[k] := by
  rw [List.getD_eq_getElem?_getD, List.getElem?_eq_getElem (by simpa using h)]; rfl

theorem mem_get (s : ByteArray) (k : Nat) (h : k < s.size) : s[k] ∈ s.data.toList := by
  have : s[k] = s.data.toList[k]'(by simpa using h) := rfl
  rw [this]; exact List.getElem_mem _

theorem ret_bool {a b : Bool} (h : a = b) : Ending.returned (.bool a) = .returned (.bool b) := by rw [h]
theorem ret_str {a b : ByteArray} (h : a = b) : Ending.returned (.string a) = .returned (.string b) := by rw [h]
theorem ret_int {k : IntKind} {a b : Int} (h : a = b) : Ending.returned (.int k a) = .returned (.int k b) := by rw [h]

end Go.Proofs.YtocbogeoffeolaaGreatDoor

namespace Go.Proofs.YtocbogeoffeolaaGreatDoor
open Go.RowKit

/-- Append of ONE element of one cell onto a row that is owned. -/
theorem wpList_append_one {P : Program} (w : World) {ops : Array Oper} {rest : List Oper} {o : Oper} {a : Act} {Q : Exit → Act → World → Prop} (hgd : o.guard = none) (s x : Operand) (t : TypeId)
    (ho : o.op = .call { callee := .builtin .append, args := #[s, x], argTypes := #[t, t] })
    (base : Nat) (e : TypeId) (i : TypeInfo) (z : Value) (bytes : Nat) (ht : P.underlying t = some (.slice e)) (hi : P.info? e = some i) (hz : i.zero = some z)
    (hsize : i.size = 1) (hby : i.bytes = bytes) (hzs : z.cells.size = 1)
    (v : Value) (n : Nat) (xs : List Value) (hs : a.eval s = v) (hown : w.ownsRow base e 1 v n xs)
    (ad : Addr) (y : Value) (hx : a.eval x = .slice (some ad) 1 1) (hcell : w.cell? ad = some y) (h1 : y.oneCell' = true)
    (hbytes : (n + 1) * bytes ≤ 140737488355328) (h63 : n + 1 ≤ maxLen) (hbase : base ≤ w.heap.size)
    (h : ∀ v' w', w'.ownsRow base e 1 v' (n + 1) (xs ++ [y]) → w.grownBy w' v.ownBlock → v' ≠ .slice none 0 0 → wpList P ops Q rest (a.put o.dst v') w') : wpList P ops Q (o :: rest) a w := by
  refine wpList_append_own w hgd s x t ho base e i z 1 bytes ht hi hz hsize hby hzs (by decide) v n xs hs hown ad 1 1 [y] hx rfl ?_ ?_ h63 hbytes hbase ?_
  · intro j u hj
    match j, hj with
    | 0, hj => simp at hj; subst hj; simpa [Addr.add] using hcell
    | j + 1, hj => simp at hj
  · intro u hu; simp at hu; subst hu; exact h1
  · intro v' w' h2 h3 h4
    refine h v' w' h2 h3 ?_
    intro he
    have := h4.1 he
    simp at this

theorem cell_new {w : World} {v : Value} {t : TypeId} : (w.alloc (.cells #[v] t)).cell? ⟨w.heap.size, 0, none⟩ = some v := by
  rw [World.cell?_alloc_at _ _ _ _ rfl]; rfl

theorem push_bytes : ∀ (l : List UInt8) (s : ByteArray), (l.map fun c => (c.toNat : Int)).foldl (fun r n => r.push (UInt8.ofNat n.toNat)) s = ⟨s.data ++ l.toArray⟩ := by
  intro l
  induction l with
  | nil => intro s; simp
  | cons c l ih =>
    intro s
    rw [List.map_cons, List.foldl_cons, ih]
    have : UInt8.ofNat ((c.toNat : Int).toNat) = c := by simp
    rw [this]
    have : (s.push c).data = s.data.push c := rfl
    rw [this]
    simp

theorem conv_bytes {P : Program} {w : World} {base u8 src dst n : Nat} {v : Value} {l : List UInt8} (h : w.ownsRow base u8 1 v n (byteVals l))
    (hs : P.underlying src = some (.slice u8)) (he : P.underlying u8 = some (.int .u8)) (hd : P.underlying dst = some .string) :
    (convert src dst v).run P w = .ok (.string ⟨l.toArray⟩) w := by
  have h0 := h
  obtain ⟨hlen, h⟩ := h
  rcases h with ⟨rfl, rfl⟩ | ⟨g, cap, cur, rfl, _, hg, _, _, hcs, htk⟩
  · have : l = [] := by simpa [byteVals] using hlen
    subst this
    rw [run_convert_bytes_string w src dst u8 _ _ _ hs he hd]
    rfl
  · rw [run_convert_bytes_string w src dst u8 _ _ _ hs he hd]
    have hn : n = l.length := by rw [byteVals_length] at hlen; omega
    have hl := run_loadCells_list (P := P) w ⟨g, 0, none⟩ (byteVals l) (h0.cells rfl)
    rw [byteVals_length, ← hn] at hl
    have e : byteVals l = (l.map fun c => (c.toNat : Int)).map (Value.int .u8) := by simp [byteVals]
    rw [e] at hl
    rw [run_bytesToString w _ _ _ _ hl, push_bytes]
    simp

end Go.Proofs.YtocbogeoffeolaaGreatDoor

namespace Go.Proofs.YtocbogeoffeolaaGreatDoor
open Go.RowKit

set_option maxHeartbeats 400000 in
theorem letter_any (c : UInt8) (w : World) :
    Calls Tryz.prog 199 #[.int .u8 c.toNat] w fun e w' => e = .returned (.bool (letterB c)) ∧ w = w' := by
  go_enter Tryz.func199, Tryz.ntmps199
  go_wp2
  all_goals
    go_ret
    refine ⟨ret_bool ?_, rfl⟩
    unfold letterB
    rw [Bool.eq_iff_iff]
    simp only [decide_eq_true_eq, Bool.or_eq_true, true_iff, false_iff, Bool.false_eq_true]
    omega

set_option maxHeartbeats 400000 in
theorem isQuery_any (s : ByteArray) (w : World) (hs : s.size ≤ maxLen) :
    Calls Tryz.prog 142 #[.string s] w fun e w' => e = .returned (.bool (queryB s.data.toList)) ∧ w = w' := by
  unfold maxLen at hs
  by_cases h24 : s.size ≤ 24
  · have hd : decide (24 < (s.size : Int)) = false := by simp; omega
    go_enter Tryz.func142, Tryz.ntmps142
    go_wp2
    go_loop [3] (fun i => ∃ k : Nat, k ≤ s.size ∧ i = .int .i64 k ∧ (s.data.toList.take k).all plainB = true) (fun i => s.size - (intOf i).toNat)
    case atStart => exact ⟨0, Nat.zero_le _, rfl, rfl⟩
    case round =>
      obtain ⟨k, hk, rfl, hall⟩ := hrel
      have HA : Hid ((s.data.toList.take k).all plainB = true) := hall
      clear hall
      by_cases hlt : k < s.size
      · have hts := take_snoc s k hlt
        have HS : Hid (s.data.toList.take (k + 1) = s.data.toList.take k ++ [s[k]]) := hts
        clear hts
        by_cases hp : plainB s[k] = true
        · have HP : Hid (plainB s[k] = true) := hp
          have h1 : 32 ≤ (s[k].toNat : Int) := by simp [plainB] at hp; omega
          have h2 : (s[k].toNat : Int) ≤ 126 := by simp [plainB] at hp; omega
          clear hp
          go_wp2
          go_round
          case rel => exact ⟨k + 1, by omega, by go_num, by rw [HS.out, List.all_append, HA.out]; simp [HP.out]⟩
          case measure => simp [intOf]; omega
        · have HP : Hid (¬ plainB s[k] = true) := hp
          have h1 : (s[k].toNat : Int) < 32 ∨ 126 < (s[k].toNat : Int) := by simp [plainB] at hp; omega
          clear hp
          rcases h1 with h1 | h1
          all_goals
            go_wp2
            go_ret
            refine ⟨ret_bool ?_, rfl⟩
            symm
            rw [Bool.eq_false_iff]
            intro hq
            apply HP.out
            simp only [queryB, Bool.and_eq_true] at hq
            exact List.all_eq_true.1 hq.2 _ (mem_get s k hlt)
      · go_wp2
        go_ret
        refine ⟨ret_bool ?_, rfl⟩
        have e : s.data.toList.take k = s.data.toList := List.take_of_length_le (by simp; omega)
        have := HA.out
        rw [e] at this
        simp [queryB, this]; exact h24
  · go_enter Tryz.func142, Tryz.ntmps142
    go_wp2
    go_ret
    refine ⟨ret_bool ?_, rfl⟩
    simp [queryB]; omega

theorem Tryz.info5 : (Tryz.prog.info? 5).map (fun i => (i.zero, i.size, i.bytes)) = some (some (.int .u8 0), 1, 1) := by kernel_rfl

set_option maxHeartbeats 400000 in
set_option maxRecDepth 100000 in
theorem fold_any (s : ByteArray) (w : World) (hs : s.size ≤ 1099511627776) :
    Calls Tryz.prog 200 #[.string s] w fun e w' => e = .returned (.string ⟨(foldL s.data.toList).toArray⟩) ∧ Below w.heap.size w w' := by
  obtain ⟨i0, hi, hz0, hz1, hz2⟩ := info_parts Tryz.info5
  go_enter Tryz.func200, Tryz.ntmps200
  go_wp2
  go_loopw [3, 4] (fun v i wr => ∃ k : Nat, k ≤ s.size ∧ i = .int .i64 k ∧ wr.ownsRow w.heap.size 5 1 v k (byteVals (foldL (s.data.toList.take k))) ∧ Below w.heap.size w wr) (fun _ i _ => s.size - (intOf i).toNat)
  case atStart => exact ⟨0, Nat.zero_le _, rfl, World.ownsRow_nil _ _ _ _, Below.refl _ _⟩
  case round =>
    obtain ⟨k, hk, rfl, hown, hbel⟩ := hrel
    have HS := hbel.size
    have hl : (byteVals (foldL (s.data.toList.take k))).length = k := by rw [byteVals_length, foldL_length]; simp; omega
    by_cases hlt : k < s.size
    · have HE : Hid (byteVals (foldL (s.data.toList.take (k + 1))) = byteVals (foldL (s.data.toList.take k)) ++ [.int .u8 (lowB s[k]).toNat]) := by
        rw [take_snoc s k hlt, foldL_snoc, byteVals_snoc]; rfl
      by_cases hup : 65 ≤ s[k].toNat ∧ s[k].toNat ≤ 90
      · have h1 : 65 ≤ (s[k].toNat : Int) := by omega
        have h2 : (s[k].toNat : Int) ≤ 90 := by omega
        have HL : Hid (((lowB s[k]).toNat : Int) = (s[k].toNat : Int) + 32) := lowB_up _ hup
        clear hup
        go_wp2_with (first
          | (at_builtin; refine wpList_append_one _ rfl _ _ 60 rfl w.heap.size 5 i0 (.int .u8 0) 1 Tryz.underlying60 hi hz0 hz1 hz2 rfl _ _ _ rfl (hown.alloc _) ⟨wr.heap.size, 0, none⟩ _ rfl cell_new rfl ?c1 ?c2 ?c3 ?_))
        case c1 => omega
        case c2 => unfold maxLen; omega
        case c3 => first | omega | (simp; omega)
        intro v' w1 hown' hgrow _
        rw [← HL.out, ← HE.out] at hown'
        have hb' := (hbel.alloc HS _).grown hgrow (by simp; omega) (fun b hb => (hown.lt b hb).1)
        go_wp2
        go_roundw
        case rel => exact ⟨k + 1, by omega, by go_num, hown', hb'⟩
        case measure => simp [intOf]; omega
      · have HL : Hid (lowB s[k] = s[k]) := lowB_no _ hup
        have h12 : (s[k].toNat : Int) < 65 ∨ 90 < (s[k].toNat : Int) := by omega
        clear hup
        rcases h12 with h1 | h1
        all_goals
          go_wp2_with (first
            | (at_builtin; refine wpList_append_one _ rfl _ _ 60 rfl w.heap.size 5 i0 (.int .u8 0) 1 Tryz.underlying60 hi hz0 hz1 hz2 rfl _ _ _ rfl (hown.alloc _) ⟨wr.heap.size, 0, none⟩ _ rfl cell_new rfl ?c1 ?c2 ?c3 ?_))
          case c1 => omega
          case c2 => unfold maxLen; omega
          case c3 => first | omega | (simp; omega)
          intro v' w1 hown' hgrow _
          have HE' := HE.out
          rw [HL.out] at HE'
          rw [← HE'] at hown'
          have hb' := (hbel.alloc HS _).grown hgrow (by simp; omega) (fun b hb => (hown.lt b hb).1)
          clear HE'
          go_wp2
          go_roundw
          case rel => exact ⟨k + 1, by omega, by go_num, hown', hb'⟩
          case measure => simp [intOf]; omega
    · have ek : k = s.size := by omega
      subst ek
      have hconv := conv_bytes hown Tryz.underlying60 Tryz.underlying5 Tryz.underlying9
      go_wp2
      go_ret
      refine ⟨ret_str ?_, hbel⟩
      rw [List.take_of_length_le (by simp)]

end Go.Proofs.YtocbogeoffeolaaGreatDoor

namespace Go.Proofs.YtocbogeoffeolaaGreatDoor
open Go.RowKit

theorem Tryz.info9 : (Tryz.prog.info? 9).map (fun i => (i.zero, i.size, i.bytes)) = some (some (.string ⟨#[]⟩), 1, 16) := by kernel_rfl

end Go.Proofs.YtocbogeoffeolaaGreatDoor

namespace Go.Proofs.YtocbogeoffeolaaGreatDoor
open Go.RowKit

/-- A word. -/
abbrev Wd := List UInt8

def sameTo (t ws : List Wd) (k j : Nat) : Bool := decide ((t.drop k).take j = ws.take j)
def hitAt (t ws : List Wd) (k : Nat) : Bool := sameTo t ws k ws.length
def countInTo (t ws : List Wd) (k : Nat) : Nat := ((List.range k).filter (hitAt t ws)).length
def countIn (t ws : List Wd) : Nat := countInTo t ws (t.length + 1 - ws.length)
def countL (ts : List (List Wd)) (ws : List Wd) : Nat := (ts.map fun t => countIn t ws).sum
/-- How large a list of texts is. -/
def bulkT (ts : List (List Wd)) : Nat := (ts.map fun t => t.length + 1).sum

end Go.Proofs.YtocbogeoffeolaaGreatDoor

namespace Go.Proofs.YtocbogeoffeolaaGreatDoor
open Go.RowKit

def Rd (w : World) (v : Value) (xs : List Value) : Prop :=
  ∃ a cap, v = .slice a xs.length cap ∧ xs.length ≤ cap ∧ cap ≤ maxLen ∧ ∀ j u, xs[j]? = some u → ∃ b off, a = some ⟨b, off, none⟩ ∧ w.cell? ⟨b, off + j, none⟩ = some u

theorem Rd.of_owns {w : World} {base e n : Nat} {v : Value} {xs : List Value} (h : w.ownsRow base e 1 v n xs) : Rd w v xs := by
  have h0 := h
  obtain ⟨hl, h⟩ := h
  rcases h with ⟨rfl, rfl⟩ | ⟨g, cap, cur, rfl, _, hg, hn, hcm, hcs, htk⟩
  · have : xs = [] := by simpa using hl
    subst this
    exact ⟨none, 0, rfl, Nat.le_refl _, by unfold maxLen; omega, by simp⟩
  · have e : n = xs.length := by omega
    refine ⟨some ⟨g, 0, none⟩, cap, by rw [e], by omega, hcm, fun j u hj => ⟨g, 0, rfl, ?_⟩⟩
    have := h0.cells (g := g) rfl j u hj
    have e2 : (⟨g, 0, none⟩ : Addr).add j = ⟨g, 0 + j, none⟩ := by
      unfold Addr.add
      split
      · rename_i h; rw [h]
      · rfl
    rw [e2] at this
    exact this

theorem Rd.nil (w : World) : Rd w (.slice none 0 0) [] := ⟨none, 0, rfl, Nat.le_refl _, by unfold maxLen; omega, by simp⟩

theorem strVals_get (ws : List Wd) (j : Nat) (h : j < ws.length) : (strVals ws)[j]? = some (.string ⟨ws[j].toArray⟩) := by
  simp [strVals, h]

/-- The texts of an engine: a slice of slices of strings. -/
def TextsR (w : World) (v : Value) (ts : List (List Wd)) : Prop :=
  ∃ vs : List Value, vs.length = ts.length ∧ Rd w v vs ∧ ∀ i (h : i < ts.length), ∃ u, vs[i]? = some u ∧ Rd w u (strVals ts[i])

end Go.Proofs.YtocbogeoffeolaaGreatDoor

namespace Go.Proofs.YtocbogeoffeolaaGreatDoor
open Go.RowKit

def atOf (out : List Wd) (x : Wd) : Nat := (out.takeWhile fun y => Op.bytesLess y x).length
def insW (out : List Wd) (x : Wd) : List Wd := if out[atOf out x]? = some x then out else out.take (atOf out x) ++ ([x] ++ out.drop (atOf out x))
def knownL (ts : List (List Wd)) : List Wd := ts.foldl (fun out t => t.foldl insW out) []

theorem takeWhile_len {α : Type} (p : α → Bool) : ∀ (l : List α) (n : Nat) (hn : n ≤ l.length), (∀ j (h : j < n), p (l[j]'(by omega)) = true) → (∀ h : n < l.length, p l[n] = false) → (l.takeWhile p).length = n := by
  intro l
  induction l with
  | nil => intro n hn _ _; simp at hn; simp [hn]
  | cons c l ih =>
    intro n hn h1 h2
    cases n with
    | zero => have := h2 (by simp); simp at this; simp [this]
    | succ n =>
      have h0 := h1 0 (by omega)
      simp at h0
      rw [List.takeWhile_cons, h0]
      simp only [if_true, List.length_cons]
      rw [ih n (by simpa using hn) (fun j hj => by have := h1 (j + 1) (by omega); simpa using this) (fun hh => by have := h2 (by simpa using hh); simpa using this)]
end Go.Proofs.YtocbogeoffeolaaGreatDoor

namespace Go.Proofs.YtocbogeoffeolaaGreatDoor
open Go.RowKit

theorem run_append_none {P : Program} (w : World) (t ty e : TypeId) (i : TypeInfo) (ht : P.underlying t = some (.slice e)) (hi : P.info? e = some i) (b : Option Addr) (n cap c : Nat) (h : n ≤ cap) :
    (Builtin.append_ #[t, t] ty #[.slice b n cap, .slice none 0 c]).run P w = .ok (.slice b n cap) w := by
  cases b <;> simp [Builtin.append_, run_underlying ht, sizeOf, typeInfo, hi, Builtin.lenOf, Builtin.firstCells, h, storeCells]

theorem owns_slice {w : World} {base e n : Nat} {v : Value} {xs : List Value} (h : w.ownsRow base e 1 v n xs) : ∃ a cap, v = .slice a n cap ∧ n ≤ cap := by
  rcases h.2 with ⟨rfl, rfl⟩ | ⟨g, cap, cur, rfl, _, _, hn, _⟩
  · exact ⟨none, 0, rfl, Nat.le_refl _⟩
  · exact ⟨_, cap, rfl, hn⟩

theorem run_append_rd {P : Program} (w : World) (base : Nat) (t ty e : TypeId) (i : TypeInfo) (z : Value) (bytes : Nat) (ht : P.underlying t = some (.slice e)) (hi : P.info? e = some i) (hz : i.zero = some z)
    (hsize : i.size = 1) (hby : i.bytes = bytes) (hzs : z.cells.size = 1)
    (v : Value) (n : Nat) (xs : List Value) (hown : w.ownsRow base e 1 v n xs)
    (x : Value) (news : List Value) (hx : Rd w x news) (h1 : ∀ u ∈ news, u.oneCell' = true)
    (hbytes : (n + news.length) * bytes ≤ 140737488355328) (h63 : n + news.length ≤ maxLen) (hbase : base ≤ w.heap.size) :
    ∃ v' w', (Builtin.append_ #[t, t] ty #[v, x]).run P w = .ok v' w' ∧ w'.ownsRow base e 1 v' (n + news.length) (xs ++ news) ∧ w.grownBy w' v.ownBlock := by
  obtain ⟨a, cap, rfl, hc, hm, hr⟩ := hx
  cases a with
  | none =>
    have hn : news = [] := by
      cases news with
      | nil => rfl
      | cons u us => obtain ⟨b, off, he, _⟩ := hr 0 u rfl; simp at he
    subst hn
    obtain ⟨b, c, rfl, hnc⟩ := owns_slice hown
    refine ⟨_, w, run_append_none w t ty e i ht hi b n c cap hnc, by simpa using hown, World.grownBy.refl _ _⟩
  | some ad =>
    by_cases hn : news = []
    · subst hn
      obtain ⟨v', w', h1, h2, h3, _⟩ := run_append_own (P := P) w base t ty e i z 1 bytes ht hi hz hsize hby hzs (by decide) v n xs hown ad 0 cap [] rfl (by simp) (by simp) (by simpa using h63) (by simpa using hbytes) hbase
      exact ⟨v', w', h1, h2, h3⟩
    · obtain ⟨b, off, he, _⟩ : ∃ b off, some ad = some ⟨b, off, none⟩ ∧ True := by
        cases news with
        | nil => exact absurd rfl hn
        | cons u us => obtain ⟨b, off, he, _⟩ := hr 0 u rfl; exact ⟨b, off, he, trivial⟩
      simp only [Option.some.injEq] at he
      subst he
      obtain ⟨v', w', h1, h2, h3, _⟩ := run_append_own (P := P) w base t ty e i z 1 bytes ht hi hz hsize hby hzs (by decide) v n xs hown ⟨b, off, none⟩ news.length cap news (by simp) (fun j u hj => by
        obtain ⟨b', off', he, hcell⟩ := hr j u hj
        simp only [Option.some.injEq, Addr.mk.injEq] at he
        obtain ⟨rfl, rfl, _⟩ := he
        rw [Addr.add_lit]; exact hcell) h1 h63 hbytes hbase
      exact ⟨v', w', h1, h2, h3⟩

theorem wpList_append_rd {P : Program} (w : World) {ops : Array Oper} {rest : List Oper} {o : Oper} {a : Act} {Q : Exit → Act → World → Prop} (hgd : o.guard = none) (s x : Operand) (t : TypeId)
    (ho : o.op = .call { callee := .builtin .append, args := #[s, x], argTypes := #[t, t] })
    (base : Nat) (e : TypeId) (i : TypeInfo) (z : Value) (bytes : Nat) (ht : P.underlying t = some (.slice e)) (hi : P.info? e = some i) (hz : i.zero = some z)
    (hsize : i.size = 1) (hby : i.bytes = bytes) (hzs : z.cells.size = 1)
    (v : Value) (n : Nat) (xs : List Value) (hs : a.eval s = v) (hown : w.ownsRow base e 1 v n xs)
    (y : Value) (news : List Value) (hx : a.eval x = y) (hy : Rd w y news) (h1 : ∀ u ∈ news, u.oneCell' = true)
    (hbytes : (n + news.length) * bytes ≤ 140737488355328) (h63 : n + news.length ≤ maxLen) (hbase : base ≤ w.heap.size)
    (h : ∀ v' w', w'.ownsRow base e 1 v' (n + news.length) (xs ++ news) → w.grownBy w' v.ownBlock → wpList P ops Q rest (a.put o.dst v') w') : wpList P ops Q (o :: rest) a w := by
  refine wpList_plain hgd fun _ hK => ?_
  obtain ⟨v', w', hr, h2, h3⟩ := run_append_rd (P := P) w base t o.type e i z bytes ht hi hz hsize hby hzs v n xs hown y news hy h1 hbytes h63 hbase
  unfold Oper.wp execOp
  simp only [ho, resolve, invoke, builtin, Sem.run_bind, Sem.run_pure, Result.andThen_ok, List.map_toArray, List.map_cons, List.map_nil, hs, hx, hr]
  exact hK _ _ (h v' w' h2 h3)

/-- .. and where the row lies behind it: where it lay, or in a block that is new. -/
theorem run_append_full {P : Program} (w : World) (base : Nat) (t ty e : TypeId) (i : TypeInfo) (z : Value) (bytes : Nat) (ht : P.underlying t = some (.slice e)) (hi : P.info? e = some i) (hz : i.zero = some z)
    (hsize : i.size = 1) (hby : i.bytes = bytes) (hzs : z.cells.size = 1)
    (v : Value) (n : Nat) (xs : List Value) (hown : w.ownsRow base e 1 v n xs)
    (x : Value) (news : List Value) (hx : Rd w x news) (h1 : ∀ u ∈ news, u.oneCell' = true)
    (hbytes : (n + news.length) * bytes ≤ 140737488355328) (h63 : n + news.length ≤ maxLen) (hbase : base ≤ w.heap.size) :
    ∃ v' w', (Builtin.append_ #[t, t] ty #[v, x]).run P w = .ok v' w' ∧ w'.ownsRow base e 1 v' (n + news.length) (xs ++ news) ∧ w.grownBy w' v.ownBlock ∧ (v'.ownBlock = v.ownBlock ∨ v'.ownBlock = some w.heap.size) := by
  obtain ⟨v', w', hr, h2, h3⟩ := run_append_rd (P := P) w base t ty e i z bytes ht hi hz hsize hby hzs v n xs hown x news hx h1 hbytes h63 hbase
  refine ⟨v', w', hr, h2, h3, ?_⟩
  obtain ⟨a, cap, rfl, hc, hm, hrd⟩ := hx
  cases a with
  | none =>
    have hn : news = [] := by
      cases news with
      | nil => rfl
      | cons u us => obtain ⟨b, off, he, _⟩ := hrd 0 u rfl; simp at he
    subst hn
    obtain ⟨b, c, rfl, hnc⟩ := owns_slice hown
    have := run_append_none (P := P) w t ty e i ht hi b n c cap hnc
    simp only [List.length_nil] at hr
    rw [this] at hr
    simp only [Result.ok.injEq] at hr
    exact Or.inl (by rw [← hr.1])
  | some ad =>
    have hnews : ∀ j u, news[j]? = some u → w.cell? (ad.add j) = some u := by
      intro j u hj
      obtain ⟨b, off, he, hcell⟩ := hrd j u hj
      simp only [Option.some.injEq] at he
      subst he
      rw [Addr.add_lit]; exact hcell
    have hl : news.length = news.length * i.size := by rw [hsize]; omega
    rcases hown.2 with ⟨rfl, rfl⟩ | ⟨g, c, cur, rfl, hbg, hg, hnc, hcm, hcs, htake⟩
    · by_cases hm0 : news.length = 0
      · have hn : news = [] := List.eq_nil_of_length_eq_zero hm0
        subst hn
        rcases h2.2 with ⟨rfl, _⟩ | ⟨g', c', cur', rfl, _, hg', _⟩
        · exact Or.inl rfl
        · exfalso
          have := run_append_own (P := P) w base t ty e i z 1 bytes ht hi hz hsize hby hzs (by decide) (.slice none 0 0) 0 xs hown ad 0 cap [] rfl (by simp) (by simp) (by simp) (by simp) hbase
          obtain ⟨v2, w2, hr2, _, _, h4⟩ := this
          simp only [List.length_nil] at hr
          rw [hr] at hr2
          simp only [Result.ok.injEq] at hr2
          have := h4.2 ⟨rfl, rfl⟩
          rw [← hr2.1] at this
          simp at this
      · have hr2 := run_append_nil (P := P) w t ty e i z ht hi hz ad news.length cap news hl hnews (by omega) (by simp only [maxLen] at h63; omega) (by rw [hby]; simp only [Nat.zero_add] at hbytes; omega)
        rw [hr2] at hr
        simp only [Result.ok.injEq] at hr
        exact Or.inr (by rw [← hr.1]; rfl)
    · by_cases hroom : n + news.length ≤ c
      · have hr2 := run_append_room (P := P) w t ty e i ht hi g n c cur hg ad news.length cap news hl hnews h1 hroom (by rw [hcs, hsize]; omega)
        rw [hr2] at hr
        simp only [Result.ok.injEq] at hr
        exact Or.inl (by rw [← hr.1]; rfl)
      · have holds : ∀ j u, xs[j]? = some u → w.cell? ((⟨g, 0, none⟩ : Addr).add j) = some u := hown.cells (g := g) rfl
        have hr2 := run_append_grow (P := P) w t ty e i z ht hi hz ⟨g, 0, none⟩ n c xs (by rw [hsize]; exact hown.1) holds ad news.length cap news hl hnews (by omega) (by simp only [maxLen] at h63; omega) (by rw [hby]; exact growslice_fits (by omega) hbytes)
        rw [hr2] at hr
        simp only [Result.ok.injEq] at hr
        exact Or.inr (by rw [← hr.1]; rfl)

theorem wpList_append_full {P : Program} (w : World) {ops : Array Oper} {rest : List Oper} {o : Oper} {a : Act} {Q : Exit → Act → World → Prop} (hgd : o.guard = none) (s x : Operand) (t : TypeId)
    (ho : o.op = .call { callee := .builtin .append, args := #[s, x], argTypes := #[t, t] })
    (base : Nat) (e : TypeId) (i : TypeInfo) (z : Value) (bytes : Nat) (ht : P.underlying t = some (.slice e)) (hi : P.info? e = some i) (hz : i.zero = some z)
    (hsize : i.size = 1) (hby : i.bytes = bytes) (hzs : z.cells.size = 1)
    (v : Value) (n : Nat) (xs : List Value) (hs : a.eval s = v) (hown : w.ownsRow base e 1 v n xs)
    (y : Value) (news : List Value) (hx : a.eval x = y) (hy : Rd w y news) (h1 : ∀ u ∈ news, u.oneCell' = true)
    (hbytes : (n + news.length) * bytes ≤ 140737488355328) (h63 : n + news.length ≤ maxLen) (hbase : base ≤ w.heap.size)
    (h : ∀ v' w', w'.ownsRow base e 1 v' (n + news.length) (xs ++ news) → w.grownBy w' v.ownBlock → (v'.ownBlock = v.ownBlock ∨ v'.ownBlock = some w.heap.size) → wpList P ops Q rest (a.put o.dst v') w') : wpList P ops Q (o :: rest) a w := by
  refine wpList_plain hgd fun _ hK => ?_
  obtain ⟨v', w', hr, h2, h3, h4⟩ := run_append_full (P := P) w base t o.type e i z bytes ht hi hz hsize hby hzs v n xs hown y news hy h1 hbytes h63 hbase
  unfold Oper.wp execOp
  simp only [ho, resolve, invoke, builtin, Sem.run_bind, Sem.run_pure, Result.andThen_ok, List.map_toArray, List.map_cons, List.map_nil, hs, hx, hr]
  exact hK _ _ (h v' w' h2 h3 h4)

/-- One element that has just been laid in a block of its own. -/
theorem Rd.one {w : World} {b : Nat} {y : Value} (h : w.cell? ⟨b, 0, none⟩ = some y) : Rd w (.slice (some ⟨b, 0, none⟩) 1 1) [y] := by
  refine ⟨some ⟨b, 0, none⟩, 1, rfl, Nat.le_refl _, by unfold maxLen; omega, fun j u hj => ⟨b, 0, rfl, ?_⟩⟩
  match j, hj with
  | 0, hj => simp at hj; subst hj; exact h
  | j + 1, hj => simp at hj

theorem strVals_one {ws : List Wd} : ∀ u ∈ strVals ws, u.oneCell' = true := by
  intro u hu
  simp only [strVals, List.mem_map] at hu
  obtain ⟨b, _, rfl⟩ := hu
  rfl

/-- A part of what a slice reads. -/
theorem Rd.take {w : World} {a : Option Addr} {n cap : Nat} {xs : List Value} (h : Rd w (.slice a n cap) xs) (k : Nat) (hk : k ≤ xs.length) : Rd w (.slice a k cap) (xs.take k) := by
  obtain ⟨a', cap', he, hc, hm, hr⟩ := h
  simp only [Value.slice.injEq] at he
  obtain ⟨rfl, rfl, rfl⟩ := he
  have hl : (xs.take k).length = k := by simp; omega
  refine ⟨a, cap, by rw [hl], by omega, hm, fun j u hj => hr j u ?_⟩
  rw [List.getElem?_take] at hj
  split at hj
  · exact hj
  · simp at hj

theorem Rd.drop {w : World} {a : Option Addr} {n cap : Nat} {xs : List Value} (h : Rd w (.slice a n cap) xs) (k : Nat) (hk : k ≤ xs.length) :
    Rd w (.slice (if cap = k then a else a.map fun x => x.add k) (n - k) (cap - k)) (xs.drop k) := by
  obtain ⟨a', cap', he, hc, hm, hr⟩ := h
  simp only [Value.slice.injEq] at he
  obtain ⟨rfl, rfl, rfl⟩ := he
  refine ⟨if cap = k then a else a.map fun x => x.add k, cap - k, by rw [List.length_drop], by simp; omega, by omega, fun j u hj => ?_⟩
  rw [List.getElem?_drop] at hj
  obtain ⟨b, off, rfl, hcell⟩ := hr (k + j) u hj
  have hlt : k + j < xs.length := by
    by_cases h : k + j < xs.length
    · exact h
    · rw [List.getElem?_eq_none (by omega)] at hj; simp at hj
  refine ⟨b, off + k, ?_, by rw [Nat.add_assoc]; exact hcell⟩
  rw [if_neg (by omega)]
  simp [Addr.add_lit]

theorem Rd.empty' {w : World} {a : Option Addr} {n c : Nat} (hn : n = 0) (hc : c ≤ maxLen) : Rd w (.slice a n c) [] := by
  subst hn
  exact ⟨a, c, rfl, Nat.zero_le _, hc, by simp⟩

/-- What a slice reads stays where nothing that was there has turned. -/
theorem Rd.later {w w' : World} {v : Value} {xs : List Value} (h : Rd w v xs) (hc : ∀ a u, w.cell? a = some u → w'.cell? a = some u) : Rd w' v xs := by
  obtain ⟨a, cap, he, h1, h2, hr⟩ := h
  refine ⟨a, cap, he, h1, h2, fun j u hj => ?_⟩
  obtain ⟨b, off, e, hcell⟩ := hr j u hj
  exact ⟨b, off, e, hc _ _ hcell⟩

theorem cell_lt {w : World} {a : Addr} {u : Value} (h : w.cell? a = some u) : a.block < w.heap.size := by
  by_cases hl : a.block < w.heap.size
  · exact hl
  · unfold World.cell? at h
    rw [Array.getElem?_eq_none (by omega)] at h
    simp at h

theorem Rd.below {w w' : World} {v : Value} {xs : List Value} (h : Rd w v xs) (hb : Below w.heap.size w w') : Rd w' v xs :=
  h.later fun _ _ hc => cell_later hb hc

/-- What stays where one block alone may have turned. -/
theorem Rd.grown {w w' : World} {a : Option Addr} {n cap : Nat} {xs : List Value} {row : Option Nat} (h : Rd w (.slice a n cap) xs) (hg : w.grownBy w' row) (hne : ∀ ad, a = some ad → some ad.block ≠ row) : Rd w' (.slice a n cap) xs := by
  obtain ⟨a', cap', he, h1, h2, hr⟩ := h
  simp only [Value.slice.injEq] at he
  obtain ⟨rfl, rfl, rfl⟩ := he
  refine ⟨a, cap, rfl, h1, h2, fun j u hj => ?_⟩
  obtain ⟨b, off, e, hcell⟩ := hr j u hj
  exact ⟨b, off, e, hg.cell hcell (hne ⟨b, off, none⟩ e)⟩

theorem owns_mono {w : World} {base base' e size n : Nat} {v : Value} {xs : List Value} (h : w.ownsRow base e size v n xs) (hb : base' ≤ base) : w.ownsRow base' e size v n xs := by
  obtain ⟨h1, h2⟩ := h
  refine ⟨h1, ?_⟩
  rcases h2 with h2 | ⟨g, cap, cur, hv, hg, r⟩
  · exact Or.inl h2
  · exact Or.inr ⟨g, cap, cur, hv, by omega, r⟩

end Go.Proofs.YtocbogeoffeolaaGreatDoor

namespace Go.Proofs.YtocbogeoffeolaaGreatDoor
open Go.RowKit

def totalW (ts : List (List Wd)) : Nat := (ts.map fun t => t.length).sum
def c3L (ts : List (List Wd)) (l : List Wd) (x : Wd) : Nat := countL ts [l.getD (l.length - 2) [], l.getD (l.length - 1) [], x]
def c2L (ts : List (List Wd)) (l : List Wd) (x : Wd) : Nat := countL ts [l.getD (l.length - 1) [], x]
def scoreL (ts : List (List Wd)) (l : List Wd) (x : Wd) : Nat × Nat :=
  if 1 < l.length ∧ 0 < c3L ts l x then (c3L ts l x, countL ts [l.getD (l.length - 2) [], l.getD (l.length - 1) []])
  else if 0 < l.length ∧ 0 < c2L ts l x then (4 * c2L ts l x, 10 * countL ts [l.getD (l.length - 1) []])
  else (16 * countL ts [x], 100 * totalW ts)

end Go.Proofs.YtocbogeoffeolaaGreatDoor

namespace Go.Proofs.YtocbogeoffeolaaGreatDoor
open Go.RowKit

theorem TextsR.below {w w' : World} {v : Value} {ts : List (List Wd)} (h : TextsR w v ts) (hb : Below w.heap.size w w') : TextsR w' v ts := by
  obtain ⟨vs, h1, h2, h3⟩ := h
  refine ⟨vs, h1, h2.below hb, fun i hi => ?_⟩
  obtain ⟨u, hu, hr⟩ := h3 i hi
  exact ⟨u, hu, hr.below hb⟩

theorem cells3 {w : World} {x y z : Wd} {t : TypeId} : ∀ j u, (strVals [x, y, z])[j]? = some u → (w.alloc (.cells #[.string ⟨x.toArray⟩, .string ⟨y.toArray⟩, .string ⟨z.toArray⟩] t)).cell? ⟨w.heap.size, 0 + j, none⟩ = some u := by
  intro j u hj
  rw [World.cell?_alloc_at _ _ _ _ rfl]
  match j, hj with
  | 0, hj => simpa [strVals] using hj
  | 1, hj => simpa [strVals] using hj
  | 2, hj => simpa [strVals] using hj
  | j + 3, hj => simp [strVals] at hj
theorem wrapK (n k : Int) (h : n = k) (h0 : 0 ≤ n) (h1 : n ≤ 4611686018427387904) : IntKind.i64.wrap n = k := by
  rw [IntWalk.i64_in n (by omega), h]

end Go.Proofs.YtocbogeoffeolaaGreatDoor

namespace Go.Proofs.YtocbogeoffeolaaGreatDoor
open Go.RowKit

abbrev Fr := Nat × Nat
def better (ab : List Fr) (i j : Nat) : Bool := decide ((ab.getD j (0, 0)).1 * (ab.getD i (0, 0)).2 < (ab.getD i (0, 0)).1 * (ab.getD j (0, 0)).2)
def bestTo (ab : List Fr) (told : List Bool) : Nat → Option Nat
  | 0 => none
  | i + 1 => if told.getD i false = true then bestTo ab told i else
    match bestTo ab told i with
    | none => some i
    | some j => if better ab i j = true then some i else some j
def picks (ab : List Fr) : List Bool → Nat → List Nat
  | _, 0 => []
  | told, n + 1 => match bestTo ab told ab.length with
    | none => []
    | some b => b :: picks ab (told.set b true) n
def abL (ts : List (List Wd)) (l : List Wd) : List Fr := (knownL ts).map (scoreL ts l)
def suggestL (ts : List (List Wd)) (l : List Wd) (most : Nat) : List Wd :=
  (picks (abL ts l) (List.replicate (knownL ts).length false) (min most (knownL ts).length)).map fun i => (knownL ts).getD i []

end Go.Proofs.YtocbogeoffeolaaGreatDoor

namespace Go.Proofs.YtocbogeoffeolaaGreatDoor
open Go.RowKit

/-- Rows of different types of elements lie in different blocks. -/
theorem owns_ne {w : World} {b1 b2 e1 e2 n1 n2 : Nat} {v1 v2 : Value} {x1 x2 : List Value} (h1 : w.ownsRow b1 e1 1 v1 n1 x1) (h2 : w.ownsRow b2 e2 1 v2 n2 x2) (hne : e1 ≠ e2) : v1.ownBlock = none ∨ v1.ownBlock ≠ v2.ownBlock := by
  rcases h1.2 with ⟨rfl, _⟩ | ⟨g, cap, cur, rfl, _, hg, _⟩
  · exact Or.inl rfl
  · right
    rcases h2.2 with ⟨rfl, _⟩ | ⟨g2, cap2, cur2, rfl, _, hg2, _⟩
    · simp [Value.ownBlock]
    · intro he
      simp only [Value.ownBlock, Option.some.injEq] at he
      rw [he, hg2] at hg
      simp only [Option.some.injEq, Obj.cells.injEq] at hg
      exact hne hg.2.1.symm

/-- An owned row where nothing that was there has turned. -/
theorem owns_below {w w' : World} {base e n : Nat} {v : Value} {xs : List Value} (h : w.ownsRow base e 1 v n xs) (hb : Below w.heap.size w w') : w'.ownsRow base e 1 v n xs :=
  h.kept (row := none) ⟨hb.os, hb.tape, hb.output, hb.size, fun k hk _ => hb.block k hk⟩ (by cases v.ownBlock <;> simp)

theorem owns_cell {w : World} {base e n m c : Nat} {a : Option Addr} {xs : List Value} (h : w.ownsRow base e 1 (.slice a m c) n xs) (k : Nat) (u : Value) (hk : xs[k]? = some u) : ∃ b off, a = some ⟨b, off, none⟩ ∧ w.cell? ⟨b, off + k, none⟩ = some u := by
  obtain ⟨a', c', he, _, _, hr⟩ := Rd.of_owns h
  simp only [Value.slice.injEq] at he
  rw [he.1]
  exact hr k u hk

theorem cell_new' {w : World} {b : Nat} {v : Value} {t : TypeId} (hb : b = w.heap.size) : (w.alloc (.cells #[v] t)).cell? ⟨b, 0, none⟩ = some v := by
  subst hb; exact cell_new

end Go.Proofs.YtocbogeoffeolaaGreatDoor

namespace Go.Proofs.YtocbogeoffeolaaGreatDoor
open Go.RowKit

/-- Nothing outside the footprint has turned; the streams are as they were. -/
structure FrameF (F : Nat → Prop) (w w' : World) : Prop where
  os : w'.os = w.os
  tape : w'.tape = w.tape
  output : w'.output = w.output
  size : w.heap.size ≤ w'.heap.size
  block : ∀ k, k < w.heap.size → ¬ F k → w'.heap[k]? = w.heap[k]?

/-- A footprint, and all blocks that were made between two worlds. -/
def Grow (F : Nat → Prop) (w w' : World) : Nat → Prop := fun k => F k ∨ (w.heap.size ≤ k ∧ k < w'.heap.size)

theorem FrameF.refl (F : Nat → Prop) (w : World) : FrameF F w w := ⟨rfl, rfl, rfl, Nat.le_refl _, fun _ _ _ => rfl⟩
theorem FrameF.of_below {F : Nat → Prop} {w w' : World} (h : Below w.heap.size w w') : FrameF F w w' := ⟨h.os, h.tape, h.output, h.size, fun k hk _ => h.block k hk⟩
theorem FrameF.trans {F G : Nat → Prop} {a b c : World} (h : FrameF F a b) (k : FrameF G b c) (hG : ∀ i, i < a.heap.size → G i → F i) : FrameF F a c :=
  ⟨k.os.trans h.os, k.tape.trans h.tape, k.output.trans h.output, Nat.le_trans h.size k.size, fun i hi hF => by
    rw [k.block i (Nat.lt_of_lt_of_le hi h.size) (fun hg => hF (hG i hi hg)), h.block i hi hF]⟩
theorem FrameF.mono {F G : Nat → Prop} {w w' : World} (h : FrameF F w w') (hF : ∀ k, F k → G k) : FrameF G w w' := ⟨h.os, h.tape, h.output, h.size, fun k hk hn => h.block k hk (fun hf => hn (hF k hf))⟩
theorem FrameF.below {F : Nat → Prop} {w w' : World} (h : FrameF F w w') (hF : ∀ k, ¬ F k) : Below w.heap.size w w' := ⟨h.os, h.tape, h.output, h.size, fun k hk => h.block k hk (hF k)⟩

/-- An owned row lies within one block: it stays while that block stays. -/
theorem owns_stay {w w' : World} {base e n : Nat} {v : Value} {xs : List Value} (h : w.ownsRow base e 1 v n xs) (hb : ∀ k, v.ownBlock = some k → w'.heap[k]? = w.heap[k]?) : w'.ownsRow base e 1 v n xs := by
  obtain ⟨h1, h2⟩ := h
  refine ⟨h1, ?_⟩
  rcases h2 with h2 | ⟨g, cap, cur, rfl, hbg, hg, r⟩
  · exact Or.inl h2
  · exact Or.inr ⟨g, cap, cur, rfl, hbg, by rw [hb g rfl]; exact hg, r⟩

/-- The texts of the document's engine, with their footprint. -/
def TextsO (w : World) (F : Nat → Prop) (vT : Value) (ts : List (List Wd)) : Prop :=
  ∃ vs : List Value, vs.length = ts.length ∧ w.ownsRow 0 31 1 vT ts.length vs ∧ (∀ k, vT.ownBlock = some k → F k) ∧
    ∀ i (h : i < ts.length), ∃ u, vs[i]? = some u ∧ w.ownsRow 0 9 1 u ts[i].length (strVals ts[i]) ∧ (∀ k, u.ownBlock = some k → F k)

theorem TextsO.reads {w : World} {F : Nat → Prop} {vT : Value} {ts : List (List Wd)} (h : TextsO w F vT ts) : TextsR w vT ts := by
  obtain ⟨vs, h1, h2, _, h4⟩ := h
  refine ⟨vs, h1, Rd.of_owns h2, fun i hi => ?_⟩
  obtain ⟨u, hu, ho, _⟩ := h4 i hi
  exact ⟨u, hu, Rd.of_owns ho⟩

theorem TextsO.stay {w w' : World} {F G : Nat → Prop} {vT : Value} {ts : List (List Wd)} (h : TextsO w F vT ts) (hb : ∀ k, F k → w'.heap[k]? = w.heap[k]?) (hG : ∀ k, F k → G k) : TextsO w' G vT ts := by
  obtain ⟨vs, h1, h2, h3, h4⟩ := h
  refine ⟨vs, h1, owns_stay h2 (fun k hk => hb k (h3 k hk)), fun k hk => hG k (h3 k hk), fun i hi => ?_⟩
  obtain ⟨u, hu, ho, hf⟩ := h4 i hi
  exact ⟨u, hu, owns_stay ho (fun k hk => hb k (hf k hk)), fun k hk => hG k (hf k hk)⟩

/-- The document's engine, of which the texts are looked at: the two other fields are as they are. -/
def RefT (w : World) (F : Nat → Prop) (b : Nat) (vB vS : Value) (ts : List (List Wd)) : Prop :=
  ∃ vT, w.heap[b]? = some (.cells #[vB, vS, vT] 120 (0, 0)) ∧ F b ∧ TextsO w F vT ts

theorem cell_of_heap {w : World} {b : Nat} {cs : Array Value} {t : TypeId} {fz : Nat × Nat} (h : w.heap[b]? = some (.cells cs t fz)) (o : Nat) : w.cell? ⟨b, o, none⟩ = cs[o]? := by
  simp [World.cell?, h]
theorem frozen_of_heap {w : World} {b : Nat} {cs : Array Value} {t : TypeId} (h : w.heap[b]? = some (.cells cs t (0, 0))) (o : Nat) : w.frozen? ⟨b, o, none⟩ = false := by
  simp [World.frozen?, h]
theorem heap_set {w : World} {b : Nat} {cs : Array Value} {t : TypeId} {fz : Nat × Nat} (h : w.heap[b]? = some (.cells cs t fz)) (o : Nat) (v : Value) : (w.setCell ⟨b, o, none⟩ v).heap[b]? = some (.cells (cs.setIfInBounds o v) t fz) := by
  simp [World.setCell, Array.getElem?_modify, h]

/-- A struct's block is no row of elements of another type. -/
theorem blk_ne {w : World} {b : Nat} {cs : Array Value} {t : TypeId} {fz : Nat × Nat} (h : w.heap[b]? = some (.cells cs t fz)) {base e n : Nat} {v : Value} {xs : List Value} (ho : w.ownsRow base e 1 v n xs) (hne : t ≠ e) : v.ownBlock ≠ some b := by
  rcases ho.2 with ⟨rfl, _⟩ | ⟨g, cap, cur, rfl, _, hg, _⟩
  · simp [Value.ownBlock]
  · intro he
    simp only [Value.ownBlock, Option.some.injEq] at he
    rw [he, h] at hg
    simp only [Option.some.injEq, Obj.cells.injEq] at hg
    exact hne hg.2.1

end Go.Proofs.YtocbogeoffeolaaGreatDoor

namespace Go.Proofs.YtocbogeoffeolaaGreatDoor
open Go.RowKit

def mVal (m : Wd) : Value := .string ⟨m.toArray⟩
/-- A list that reads as its mark, again and again. -/
def MarkIs (w : World) (D : Nat → Prop) (u : Value) (m : Wd) : Prop := ∃ n, Rd w u (List.replicate n (mVal m)) ∧ ∀ k, u.ownBlock = some k → D k

/-- B: the block of hintlaw's World. D: the blocks in which the lists lie. -/
structure Lists (w : World) (D : Nat → Prop) (B : Nat) (vl vm : Value) (us : List Value) (ms : List Wd) : Prop where
  ol : w.ownsRow 0 31 1 vl us.length us
  om : w.ownsRow 0 9 1 vm ms.length (strVals ms)
  dl : ∀ k, vl.ownBlock = some k → ¬ D k
  dm : ∀ k, vm.ownBlock = some k → ¬ D k
  dB : ¬ D B
  dlt : ∀ k, D k → k < w.heap.size
  each : ∀ (i : Nat) (u : Value) (mm : Wd), us[i]? = some u → ms[i]? = some mm → MarkIs w D u mm

theorem MarkIs.stay {w w' : World} {D D' : Nat → Prop} {u : Value} {m : Wd} (h : MarkIs w D u m) (hb : ∀ k, D k → w'.heap[k]? = w.heap[k]?) (hD : ∀ k, D k → D' k) : MarkIs w' D' u m := by
  obtain ⟨n, ⟨a, cap, rfl, h1, h2, hr⟩, hf⟩ := h
  refine ⟨n, ⟨a, cap, rfl, h1, h2, fun j v hj => ?_⟩, fun k hk => hD k (hf k hk)⟩
  obtain ⟨b, off, rfl, hc⟩ := hr j v hj
  refine ⟨b, off, rfl, ?_⟩
  rw [World.cell?_of_block (w := w) (hb b (hf b rfl))]; exact hc

theorem repl_get (n : Nat) (m : Wd) (j : Nat) (h : j < n) : (List.replicate n (mVal m))[j]? = some (mVal m) := by simp [h]

set_option maxHeartbeats 1000000 in
set_option maxRecDepth 100000 in
theorem kept_any (B : Nat) (D : Nat → Prop) (vl vm : Value) (us : List Value) (ms : List Wd) (w : World) (h1 : w.cell? ⟨B, 1, none⟩ = some vl) (h2 : w.cell? ⟨B, 2, none⟩ = some vm) (hL : Lists w D B vl vm us ms) (hlen : us.length = ms.length) (hB : us.length ≤ 1099511627776) :
    Calls Tryz.prog 42 #[.pointer (some ⟨B, 0, none⟩)] w fun e w' => e = .returned (.bool true) ∧ ∃ n, w' = w.drewN n := by
  obtain ⟨hol, hom, _, _, _, _, heach⟩ := hL
  obtain ⟨al, cl, rfl, hcl⟩ := owns_slice hol
  obtain ⟨am, cm, rfl, hcm⟩ := owns_slice hom
  rw [← hlen] at h2 hcm hom
  have HOL : Hid (w.ownsRow 0 31 1 (.slice al us.length cl) us.length us) := hol
  have HOM : Hid (w.ownsRow 0 9 1 (.slice am us.length cm) us.length (strVals ms)) := hom
  have HE : Hid (∀ (i : Nat) (u : Value) (mm : Wd), us[i]? = some u → ms[i]? = some mm → MarkIs w D u mm) := heach
  have HLN : Hid (us.length = ms.length) := hlen
  clear hol hom heach hlen
  go_enter Tryz.func42, Tryz.ntmps42
  go_wp2
  go_loopw [3] (fun i wr => ∃ k m : Nat, k ≤ us.length ∧ i = .int .i64 k ∧ wr = w.drewN m) (fun i _ => us.length - (intOf i).toNat)
  case atStart => exact ⟨0, 0, Nat.zero_le _, rfl, rfl⟩
  case round =>
    obtain ⟨k, m, hk, rfl, rfl⟩ := hrel
    by_cases hlt : k < us.length
    · have hlm : k < ms.length := by have := HLN.out; omega
      have hu : us[k]? = some us[k] := List.getElem?_eq_getElem hlt
      obtain ⟨n, ⟨au, cu, hue, hcu, hmu, hru⟩, _⟩ := HE.out k us[k] ms[k] hu (List.getElem?_eq_getElem hlm)
      rw [hue] at hu
      clear hue
      obtain ⟨bl, ol, rfl, hcl1⟩ := owns_cell HOL.out k _ hu
      obtain ⟨bm, om, rfl, hcm1⟩ := owns_cell HOM.out k _ (strVals_get ms k hlm)
      have HRU : Hid (∀ j u, (List.replicate n (mVal ms[k]))[j]? = some u → ∃ b off, au = some ⟨b, off, none⟩ ∧ w.cell? ⟨b, off + j, none⟩ = some u) := hru
      rw [List.length_replicate] at hcl1 hcu
      unfold maxLen at hmu
      clear hru hu
      generalize ms[k] = mk at *
      go_wp2_with fail
      go_loopw [4] (fun i wr => ∃ q m : Nat, q ≤ n ∧ i = .int .i64 q ∧ wr = w.drewN m) (fun i _ => n - (intOf i).toNat)
      case atStart => exact ⟨0, m, Nat.zero_le _, rfl, rfl⟩
      case round =>
        obtain ⟨q, m, hq, rfl, rfl⟩ := hrel
        by_cases hlq : q < n
        · obtain ⟨bu, ou, rfl, hcu1⟩ := HRU.out q _ (repl_get n mk q hlq)
          unfold mVal at hcu1
          go_wp2_with fail
          go_quiet (fail)
          go_wp2
          go_roundw
          case rel => exact ⟨q + 1, _, by omega, by go_num, rfl⟩
          case measure => simp [intOf]; omega
        · go_wp2
          go_roundw
          case rel => exact ⟨k + 1, _, by omega, by go_num, rfl⟩
          case measure => simp [intOf]; omega
    · go_wp2
      go_ret
      exact ⟨rfl, _, rfl⟩

end Go.Proofs.YtocbogeoffeolaaGreatDoor

namespace Go.Proofs.YtocbogeoffeolaaGreatDoor
open Go.RowKit

/-- The list that is written full just now: all its cells are the mark m; its block is one of the lists'. -/
structure Cur (w : World) (D : Nat → Prop) (l : Value) (n : Nat) (m : Wd) : Prop where
  row : w.ownsRow 0 9 1 l n (List.replicate n (mVal m))
  blk : ∀ k, l.ownBlock = some k → D k

/-- Lists in the block of the current one are its beginnings. -/
def Grp (l : Value) (n : Nat) (m : Wd) (us : List Value) (ms : List Wd) : Prop :=
  ∀ (i : Nat) (u : Value), us[i]? = some u → u.ownBlock ≠ none → u.ownBlock = l.ownBlock → (∃ g n' c, u = .slice (some ⟨g, 0, none⟩) n' c ∧ n' ≤ n ∧ n' ≤ c ∧ c ≤ maxLen) ∧ ∀ mm, ms[i]? = some mm → mm = m

theorem Lists.stay {w w' : World} {D : Nat → Prop} {B : Nat} {vl vm : Value} {us : List Value} {ms : List Wd} (h : Lists w D B vl vm us ms) (hz : w.heap.size ≤ w'.heap.size)
    (hb : ∀ k, D k → w'.heap[k]? = w.heap[k]?) (hl : ∀ k, vl.ownBlock = some k → w'.heap[k]? = w.heap[k]?) (hm : ∀ k, vm.ownBlock = some k → w'.heap[k]? = w.heap[k]?) : Lists w' D B vl vm us ms :=
  ⟨owns_stay h.ol hl, owns_stay h.om hm, h.dl, h.dm, h.dB, fun k hk => Nat.lt_of_lt_of_le (h.dlt k hk) hz, fun i u mm hu hmm => (h.each i u mm hu hmm).stay hb (fun _ hk => hk)⟩

theorem Cur.stay {w w' : World} {D : Nat → Prop} {l : Value} {n : Nat} {m : Wd} (h : Cur w D l n m) (hb : ∀ k, D k → w'.heap[k]? = w.heap[k]?) : Cur w' D l n m :=
  ⟨owns_stay h.row (fun k hk => hb k (h.blk k hk)), h.blk⟩

/-- A prefix of an owned row reads. -/
theorem Rd.prefix {w : World} {base e n g n' c cap : Nat} {xs : List Value} (h : w.ownsRow base e 1 (.slice (some ⟨g, 0, none⟩) n cap) n xs) (hn : n' ≤ n) (hc : n' ≤ c) (hm : c ≤ maxLen) : Rd w (.slice (some ⟨g, 0, none⟩) n' c) (xs.take n') := by
  have hl : xs.length = n := by have := h.1; omega
  refine ⟨some ⟨g, 0, none⟩, c, by simp; omega, by simp; omega, hm, fun j u hj => ?_⟩
  have hj' : xs[j]? = some u := by
    rw [List.getElem?_take] at hj
    split at hj
    · exact hj
    · simp at hj
  exact ⟨g, 0, rfl, by have := h.cells (g := g) rfl j u hj'; rwa [Addr.add_lit] at this⟩

/-- append(l, m): w1 is the world in which m has been laid in a block of its own. -/
theorem lists_more {w w' : World} {D : Nat → Prop} {B n N : Nat} {vl vm l l' : Value} {us : List Value} {ms : List Wd} {m : Wd} {o : Obj}
    (h : Lists w D B vl vm us ms) (hc : Cur w D l n m) (hg : Grp l n m us ms) (hBz : B < w.heap.size) (hlen : us.length = ms.length)
    (ho : w'.ownsRow 0 9 1 l' (n + 1) (List.replicate n (mVal m) ++ [mVal m])) (hgr : (w.alloc o).grownBy w' l.ownBlock)
    (hb : l'.ownBlock = l.ownBlock ∨ (l'.ownBlock = some N ∧ Below (w.alloc o).heap.size (w.alloc o) w')) (hN : N = w.heap.size + 1) :
    ∃ D' : Nat → Prop, Lists w' D' B vl vm us ms ∧ Cur w' D' l' (n + 1) m ∧ Grp l' (n + 1) m us ms ∧ (∀ k, D k → D' k) ∧ (∀ k, D' k → D k ∨ w.heap.size ≤ k) := by
  have hrep : List.replicate n (mVal m) ++ [mVal m] = List.replicate (n + 1) (mVal m) := by rw [List.replicate_succ']
  rw [hrep] at ho
  have hz : w.heap.size + 1 ≤ w'.heap.size := by have := hgr.size; simpa using this
  rcases hb with hb | ⟨hb, hbel⟩
  · -- in its own block
    have hfar : ∀ k, k < w.heap.size → some k ≠ l.ownBlock → w'.heap[k]? = w.heap[k]? := fun k hk hne => by
      rw [hgr.block k (by simp; omega) hne, Below.heap_alloc _ _ _ hk]
    refine ⟨D, ⟨owns_stay h.ol (fun k hk => hfar k (h.ol.lt k hk).2 (fun e => h.dl k hk (hc.blk k e.symm))), owns_stay h.om (fun k hk => hfar k (h.om.lt k hk).2 (fun e => h.dm k hk (hc.blk k e.symm))), h.dl, h.dm, h.dB, fun k hk => by have := h.dlt k hk; omega, ?_⟩, ⟨ho, fun k hk => hc.blk k (by rw [← hb]; exact hk)⟩, ?_, fun _ hk => hk, fun _ hk => Or.inl hk⟩
    · intro i u mm hu hmm
      obtain ⟨n0, hrd, hf⟩ := h.each i u mm hu hmm
      by_cases hub : u.ownBlock = none ∨ u.ownBlock ≠ l.ownBlock
      · refine ⟨n0, ?_, hf⟩
        obtain ⟨a, cap, rfl, h1, h2, hr⟩ := hrd
        refine ⟨a, cap, rfl, h1, h2, fun j v hj => ?_⟩
        obtain ⟨b, off, rfl, hcell⟩ := hr j v hj
        refine ⟨b, off, rfl, ?_⟩
        have hne : some b ≠ l.ownBlock := by
          rcases hub with hub | hub
          · simp [Value.ownBlock] at hub
          · exact hub
        rw [World.cell?_of_block (w := w) (hfar b (h.dlt b (hf b rfl)) hne)]
        exact hcell
      · have hub1 : u.ownBlock ≠ none := fun e => hub (Or.inl e)
        have hub2 : u.ownBlock = l.ownBlock := Decidable.byContradiction fun e => hub (Or.inr e)
        obtain ⟨⟨g, n', c, rfl, hn', hnc, hcm⟩, hm⟩ := hg i u hu hub1 hub2
        have := hm mm hmm
        subst this
        -- the row's own form
        obtain ⟨a', c', rfl, _⟩ := owns_slice ho
        have ha : a' = some ⟨g, 0, none⟩ := by
          rcases ho.2 with ⟨he, _⟩ | ⟨g', cap', cur', he, _⟩
          · simp at he
          · simp only [Value.slice.injEq] at he
            obtain ⟨rfl, _, rfl⟩ := he
            have : some g' = some g := by
              have e1 : (Value.slice (some ⟨g', 0, none⟩) (n + 1) c').ownBlock = some g' := rfl
              have e2 : (Value.slice (some ⟨g, 0, none⟩) n' c).ownBlock = some g := rfl
              rw [← e1, hb, ← hub2, e2]
            simp only [Option.some.injEq] at this
            rw [this]
        subst ha
        refine ⟨n', ?_, hf⟩
        have := Rd.prefix ho (n' := n') (c := c) (by omega) hnc hcm
        rw [List.take_replicate, Nat.min_eq_left (by omega)] at this
        exact this
    · intro i u hu hu1 hu2
      rw [hb] at hu2
      obtain ⟨⟨g, n', c, rfl, hn', hnc, hcm⟩, hm⟩ := hg i u hu hu1 hu2
      exact ⟨⟨g, n', c, rfl, by omega, hnc, hcm⟩, hm⟩
  · -- in a new one
    have hfar : ∀ k, k < w.heap.size → w'.heap[k]? = w.heap[k]? := fun k hk => by
      rw [hbel.block k (by simp; omega), Below.heap_alloc _ _ _ hk]
    refine ⟨fun k => D k ∨ k = N, ⟨owns_stay h.ol (fun k hk => hfar k (h.ol.lt k hk).2), owns_stay h.om (fun k hk => hfar k (h.om.lt k hk).2), ?_, ?_, ?_, ?_, ?_⟩, ⟨ho, fun k hk => by rw [hb] at hk; simp only [Option.some.injEq] at hk; exact Or.inr hk.symm⟩, ?_, fun _ hk => Or.inl hk, ?_⟩
    · intro k hk hd
      rcases hd with hd | hd
      · exact h.dl k hk hd
      · have := (h.ol.lt k hk).2; omega
    · intro k hk hd
      rcases hd with hd | hd
      · exact h.dm k hk hd
      · have := (h.om.lt k hk).2; omega
    · intro hd
      rcases hd with hd | hd
      · exact h.dB hd
      · omega
    · intro k hd
      rcases hd with hd | hd
      · have := h.dlt k hd; omega
      · have := (ho.lt N hb).2; omega
    · intro i u mm hu hmm
      exact (h.each i u mm hu hmm).stay (fun k hk => hfar k (h.dlt k hk)) (fun _ hk => Or.inl hk)
    · intro i u hu hu1 hu2
      exfalso
      rw [hb] at hu2
      have hi : i < us.length := by
        by_cases hi : i < us.length
        · exact hi
        · rw [List.getElem?_eq_none (by omega)] at hu; simp at hu
      obtain ⟨_, _, hf⟩ := h.each i u ms[i] hu (List.getElem?_eq_getElem (by omega))
      have := h.dlt N (hf N hu2)
      omega
    · intro k hd
      rcases hd with hd | hd
      · exact Or.inl hd
      · exact Or.inr (by omega)

/-- A field of hintlaw's World is written: B's block alone turns. -/
theorem lists_field {w : World} {D : Nat → Prop} {B o : Nat} {vl vm v : Value} {us : List Value} {ms : List Wd} {cs : Array Value} (h : Lists w D B vl vm us ms) (hB : w.heap[B]? = some (.cells cs 74 (0, 0))) :
    Lists (w.setCell ⟨B, o, none⟩ v) D B vl vm us ms := by
  have hfar : ∀ k, k ≠ B → (w.setCell ⟨B, o, none⟩ v).heap[k]? = w.heap[k]? := fun k hk => Below.heap_setCell _ _ _ _ hk
  refine h.stay (by simp [World.setCell]) (fun k hk => hfar k (fun e => h.dB (e ▸ hk))) (fun k hk => hfar k (fun e => ?_)) (fun k hk => hfar k (fun e => ?_))
  · subst e; exact blk_ne hB h.ol (by decide) hk
  · subst e; exact blk_ne hB h.om (by decide) hk
theorem cur_field {w : World} {D : Nat → Prop} {B o n : Nat} {l v : Value} {m : Wd} (h : Cur w D l n m) (hB : ¬ D B) : Cur (w.setCell ⟨B, o, none⟩ v) D l n m :=
  h.stay (fun k hk => Below.heap_setCell _ _ _ _ (fun e => hB (by have e' : k = B := e; rw [← e']; exact hk)))

/-- w.lists = append(w.lists, u). -/
theorem lists_push {w w' : World} {D : Nat → Prop} {B : Nat} {vl vl' vm u : Value} {us : List Value} {ms : List Wd} {o : Obj}
    (h : Lists w D B vl vm us ms) (hlen : us.length = ms.length)
    (ho : w'.ownsRow 0 31 1 vl' (us.length + 1) (us ++ [u])) (hgr : (w.alloc o).grownBy w' vl.ownBlock) (hb : vl'.ownBlock = vl.ownBlock ∨ vl'.ownBlock = some (w.heap.size + 1)) :
    Lists w' D B vl' vm (us ++ [u]) ms := by
  have hz : w.heap.size + 1 ≤ w'.heap.size := by have := hgr.size; simpa using this
  have hfar : ∀ k, k < w.heap.size → some k ≠ vl.ownBlock → w'.heap[k]? = w.heap[k]? := fun k hk hne => by
    rw [hgr.block k (by simp; omega) hne, Below.heap_alloc _ _ _ hk]
  refine ⟨by have : (us ++ [u]).length = us.length + 1 := by simp
             rw [this]; exact ho, owns_stay h.om (fun k hk => hfar k (h.om.lt k hk).2 (fun e => ?_)), fun k hk hd => ?_, h.dm, h.dB, fun k hk => by have := h.dlt k hk; omega, fun i v mm hv hmm => ?_⟩
  · rcases owns_ne h.om h.ol (by decide) with h1 | h1
    · rw [h1] at hk; simp at hk
    · exact h1 (by rw [hk, e])
  · rcases hb with hb | hb
    · exact h.dl k (by rw [← hb]; exact hk) hd
    · rw [hb] at hk; simp only [Option.some.injEq] at hk; have := h.dlt k hd; omega
  · have hi : i < ms.length := by
      by_cases hi : i < ms.length
      · exact hi
      · rw [List.getElem?_eq_none (by omega)] at hmm; simp at hmm
    rw [List.getElem?_append_left (by omega)] at hv
    exact (h.each i v mm hv hmm).stay (fun k hk => hfar k (h.dlt k hk) (fun e => h.dl k e.symm hk)) (fun _ hk => hk)

/-- w.marks = append(w.marks, m), the last list being the current one. -/
theorem marks_push {w w' : World} {D : Nat → Prop} {B n : Nat} {vl vm vm' u : Value} {us : List Value} {ms : List Wd} {m : Wd} {o : Obj}
    (h : Lists w D B vl vm us ms) (hlen : us.length = ms.length + 1) (hu : us[ms.length]? = some u) (hc : Cur w D u n m)
    (ho : w'.ownsRow 0 9 1 vm' (ms.length + 1) (strVals ms ++ [mVal m])) (hgr : (w.alloc o).grownBy w' vm.ownBlock) (hb : vm'.ownBlock = vm.ownBlock ∨ vm'.ownBlock = some (w.heap.size + 1)) :
    Lists w' D B vl vm' us (ms ++ [m]) ∧ Cur w' D u n m := by
  have hz : w.heap.size + 1 ≤ w'.heap.size := by have := hgr.size; simpa using this
  have hfar : ∀ k, k < w.heap.size → some k ≠ vm.ownBlock → w'.heap[k]? = w.heap[k]? := fun k hk hne => by
    rw [hgr.block k (by simp; omega) hne, Below.heap_alloc _ _ _ hk]
  have hD : ∀ k, D k → w'.heap[k]? = w.heap[k]? := fun k hk => hfar k (h.dlt k hk) (fun e => h.dm k e.symm hk)
  have hcur := hc.stay hD
  refine ⟨⟨owns_stay h.ol (fun k hk => hfar k (h.ol.lt k hk).2 (fun e => ?_)), ?_, h.dl, fun k hk hd => ?_, h.dB, fun k hk => by have := h.dlt k hk; omega, fun i v mm hv hmm => ?_⟩, hcur⟩
  · rcases owns_ne h.ol h.om (by decide) with h1 | h1
    · rw [h1] at hk; simp at hk
    · exact h1 (by rw [hk, e])
  · have e1 : (ms ++ [m]).length = ms.length + 1 := by simp
    rw [e1, strVals_snoc]; exact ho
  · rcases hb with hb | hb
    · exact h.dm k (by rw [← hb]; exact hk) hd
    · rw [hb] at hk; simp only [Option.some.injEq] at hk; have := h.dlt k hd; omega
  · by_cases hi : i < ms.length
    · rw [List.getElem?_append_left hi] at hmm
      exact (h.each i v mm hv hmm).stay hD (fun _ hk => hk)
    · have hi2 : i = ms.length := by
        by_cases hi2 : i < us.length
        · omega
        · rw [List.getElem?_eq_none (by omega)] at hv; simp at hv
      subst hi2
      rw [hu] at hv
      simp at hmm
      simp only [Option.some.injEq] at hv
      subst hmm; subst hv
      exact ⟨n, Rd.of_owns hcur.row, hcur.blk⟩

end Go.Proofs.YtocbogeoffeolaaGreatDoor

namespace Go.Proofs.YtocbogeoffeolaaGreatDoor
open Go.RowKit

theorem FrameF.grown {G : Nat → Prop} {w wr w' : World} {o : Obj} {row : Option Nat} (h : FrameF G w wr) (hg : (wr.alloc o).grownBy w' row) (hr : ∀ k, row = some k → G k ∨ w.heap.size ≤ k) : FrameF G w w' := by
  refine ⟨hg.os.trans h.os, hg.tape.trans h.tape, hg.output.trans h.output, ?_, fun k hk hn => ?_⟩
  · have := hg.size; have := h.size; simp at *; omega
  · have hz := h.size
    rw [hg.block k (by simp; omega) (fun e => ?_), Below.heap_alloc _ _ _ (by omega), h.block k hk hn]
    rcases hr k e.symm with h1 | h1
    · exact hn h1
    · omega
theorem FrameF.setCell {G : Nat → Prop} {w wr : World} {B o : Nat} {v : Value} (h : FrameF G w wr) (hG : G B) : FrameF G w (wr.setCell ⟨B, o, none⟩ v) := by
  refine ⟨h.os, h.tape, h.output, by simp [World.setCell]; exact h.size, fun k hk hn => ?_⟩
  rw [Below.heap_setCell _ _ _ _ (fun e => hn (by have e' : k = B := e; rw [e']; exact hG))]
  exact h.block k hk hn
theorem blk_grown {w w' : World} {B : Nat} {o : Obj} {cs : Array Value} {t : TypeId} {fz : Nat × Nat} {row : Option Nat} (h : w.heap[B]? = some (.cells cs t fz)) (hg : (w.alloc o).grownBy w' row) (hne : row ≠ some B) : w'.heap[B]? = some (.cells cs t fz) := by
  have hB : B < w.heap.size := by
    by_cases hB : B < w.heap.size
    · exact hB
    · rw [Array.getElem?_eq_none (by omega)] at h; simp at h
  rw [hg.block B (by simp; omega) (fun e => hne e.symm), Below.heap_alloc _ _ _ hB]; exact h

/-- How things stand while a list is kept: w0: the world in which keep began; G: what keep may turn of it; D0: in which old blocks lists may lie. -/
structure KS (w0 : World) (G D0 Pl Pm : Nat → Prop) (B : Nat) (va : Value) (lastv : Int) (m : Wd) (w : World) (D : Nat → Prop) (vl vm l : Value) (n : Nat) (us : List Value) (ms : List Wd) : Prop where
  heap : w.heap[B]? = some (.cells #[va, vl, vm, .int .i64 lastv] 74 (0, 0))
  lists : Lists w D B vl vm us ms
  len : us.length = ms.length
  cur : Cur w D l n m
  grp : Grp l n m us ms
  frame : FrameF G w0 w
  gB : G B
  gl : ∀ k, vl.ownBlock = some k → Pl k ∨ w0.heap.size ≤ k
  gm : ∀ k, vm.ownBlock = some k → Pm k ∨ w0.heap.size ≤ k
  gx : ∀ k, l.ownBlock = some k → G k ∨ w0.heap.size ≤ k
  pl : ∀ k, Pl k → G k
  pm : ∀ k, Pm k → G k
  dd : ∀ k, D k → D0 k ∨ w0.heap.size ≤ k

theorem grp_push {w : World} {base e n : Nat} {l : Value} {m : Wd} {us : List Value} {ms : List Wd} {xs : List Value} (h : Grp l n m us ms) (hlen : us.length = ms.length) (ho : w.ownsRow base e 1 l n xs) : Grp l n m (us ++ [l]) (ms ++ [m]) := by
  intro i u hu hu1 hu2
  by_cases hi : i < us.length
  · rw [List.getElem?_append_left hi] at hu
    obtain ⟨h1, h2⟩ := h i u hu hu1 hu2
    exact ⟨h1, fun mm hmm => by rw [List.getElem?_append_left (by omega)] at hmm; exact h2 mm hmm⟩
  · have hi2 : i = us.length := by
      by_cases hi2 : i < (us ++ [l]).length
      · simp at hi2; omega
      · rw [List.getElem?_eq_none (by omega)] at hu; simp at hu
    subst hi2
    simp at hu
    subst hu
    constructor
    · rcases ho.2 with ⟨rfl, _⟩ | ⟨g, cap, cur, rfl, _, _, hn, hcm, _⟩
      · exact absurd rfl hu1
      · exact ⟨g, n, cap, rfl, Nat.le_refl _, hn, hcm⟩
    · intro mm hmm
      rw [hlen] at hmm
      simp at hmm
      exact hmm.symm

section
variable {w0 w : World} {G D0 Pl Pm D : Nat → Prop} {B n : Nat} {va vl vm l : Value} {lastv : Int} {m : Wd} {us : List Value} {ms : List Wd}

/-- Behind the append onto the lists. -/
theorem KS.mid (h : KS w0 G D0 Pl Pm B va lastv m w D vl vm l n us ms) {w3 : World} {vl1 : Value} {o : Obj} (ho3 : w3.ownsRow 0 31 1 vl1 (us.length + 1) (us ++ [l])) (hg3 : (w.alloc o).grownBy w3 vl.ownBlock)
    (hk3 : vl1.ownBlock = vl.ownBlock ∨ vl1.ownBlock = some (w.heap.size + 1)) :
    w3.heap[B]? = some (.cells #[va, vl, vm, .int .i64 lastv] 74 (0, 0)) ∧ Lists (w3.setCell ⟨B, 1, none⟩ vl1) D B vl1 vm (us ++ [l]) ms ∧ Cur (w3.setCell ⟨B, 1, none⟩ vl1) D l n m ∧ FrameF G w0 (w3.setCell ⟨B, 1, none⟩ vl1) := by
  have hB3 := blk_grown h.heap hg3 (blk_ne h.heap h.lists.ol (by decide))
  have hL := lists_push h.lists h.len ho3 hg3 hk3
  have hcur : Cur w3 D l n m := h.cur.stay (fun k hk => by
    rw [hg3.block k (by have := h.lists.dlt k hk; simp; omega) (fun e => h.lists.dl k e.symm hk), Below.heap_alloc _ _ _ (h.lists.dlt k hk)])
  have hfr : FrameF G w0 w3 := h.frame.grown hg3 (fun k hk => by
    rcases h.gl k hk with h1 | h1
    · exact Or.inl (h.pl k h1)
    · exact Or.inr h1)
  exact ⟨hB3, lists_field hL hB3, cur_field hcur h.lists.dB, hfr.setCell h.gB⟩

/-- Behind both. -/
theorem KS.push (h : KS w0 G D0 Pl Pm B va lastv m w D vl vm l n us ms) {w3 w5 : World} {vl1 vm1 : Value} {o o' : Obj} (ho3 : w3.ownsRow 0 31 1 vl1 (us.length + 1) (us ++ [l])) (hg3 : (w.alloc o).grownBy w3 vl.ownBlock)
    (hk3 : vl1.ownBlock = vl.ownBlock ∨ vl1.ownBlock = some (w.heap.size + 1))
    (ho5 : w5.ownsRow 0 9 1 vm1 (ms.length + 1) (strVals ms ++ [mVal m])) (hg5 : ((w3.setCell ⟨B, 1, none⟩ vl1).alloc o').grownBy w5 vm.ownBlock) (hk5 : vm1.ownBlock = vm.ownBlock ∨ vm1.ownBlock = some (w3.heap.size + 1)) :
    w5.heap[B]? = some (.cells #[va, vl1, vm, .int .i64 lastv] 74 (0, 0)) ∧ KS w0 G D0 Pl Pm B va lastv m (w5.setCell ⟨B, 2, none⟩ vm1) D vl1 vm1 l n (us ++ [l]) (ms ++ [m]) := by
  obtain ⟨hB3, hL4, hC4, hfr4⟩ := h.mid ho3 hg3 hk3
  have hsz : (w3.setCell ⟨B, 1, none⟩ vl1).heap.size = w3.heap.size := by simp [World.setCell]
  have hz0 := h.frame.size
  have hB4 : (w3.setCell ⟨B, 1, none⟩ vl1).heap[B]? = some (.cells #[va, vl1, vm, .int .i64 lastv] 74 (0, 0)) := by rw [heap_set hB3]; rfl
  have hB5 := blk_grown hB4 hg5 (blk_ne hB4 hL4.om (by decide))
  obtain ⟨hL5, hC5⟩ := marks_push hL4 (by simp [h.len]) (by rw [← h.len]; simp) hC4 ho5 hg5 (by rw [hsz]; exact hk5)
  have hfr5 : FrameF G w0 w5 := hfr4.grown hg5 (fun k hk => by
    rcases h.gm k hk with h1 | h1
    · exact Or.inl (h.pm k h1)
    · exact Or.inr h1)
  have hz3 : w.heap.size + 1 ≤ w3.heap.size := by have := hg3.size; simpa using this
  refine ⟨hB5, ?_, lists_field hL5 hB5, by simp [h.len], cur_field hC5 h.lists.dB, grp_push h.grp h.len h.cur.row, hfr5.setCell h.gB, h.gB, ?_, ?_, h.gx, h.pl, h.pm, h.dd⟩
  · rw [heap_set hB5]; rfl
  · intro k hk
    rcases hk3 with h1 | h1
    · exact h.gl k (by rw [← h1]; exact hk)
    · rw [h1] at hk; simp only [Option.some.injEq] at hk; exact Or.inr (by omega)
  · intro k hk
    rcases hk5 with h1 | h1
    · exact h.gm k (by rw [← h1]; exact hk)
    · rw [h1] at hk; simp only [Option.some.injEq] at hk; exact Or.inr (by omega)

/-- Behind append(l, m). -/
theorem KS.more (h : KS w0 G D0 Pl Pm B va lastv m w D vl vm l n us ms) {w' : World} {l' : Value} {o : Obj} (ho : w'.ownsRow 0 9 1 l' (n + 1) (List.replicate n (mVal m) ++ [mVal m])) (hgr : (w.alloc o).grownBy w' l.ownBlock)
    (hb : l'.ownBlock = l.ownBlock ∨ (l'.ownBlock = some (w.heap.size + 1) ∧ Below (w.heap.size + 1) (w.alloc o) w')) :
    ∃ D' : Nat → Prop, KS w0 G D0 Pl Pm B va lastv m w' D' vl vm l' (n + 1) us ms := by
  have hBz : B < w.heap.size := by
    by_cases hB : B < w.heap.size
    · exact hB
    · have := h.heap; rw [Array.getElem?_eq_none (by omega)] at this; simp at this
  have hz0 := h.frame.size
  have hsz : (w.alloc o).heap.size = w.heap.size + 1 := by simp
  obtain ⟨D', hL, hC, hG, hD1, hD2⟩ := lists_more h.lists h.cur h.grp hBz h.len ho hgr (by rw [hsz]; exact hb) rfl
  refine ⟨D', blk_grown h.heap hgr (blk_ne h.heap h.cur.row (by decide)), hL, h.len, hC, hG, h.frame.grown hgr h.gx, h.gB, h.gl, h.gm, ?_, h.pl, h.pm, ?_⟩
  · intro k hk
    rcases hb with h1 | ⟨h1, _⟩
    · exact h.gx k (by rw [← h1]; exact hk)
    · rw [h1] at hk; simp only [Option.some.injEq] at hk; exact Or.inr (by omega)
  · intro k hk
    rcases hD2 k hk with h1 | h1
    · exact h.dd k h1
    · exact Or.inr (by omega)
end

end Go.Proofs.YtocbogeoffeolaaGreatDoor

namespace Go.Proofs.YtocbogeoffeolaaGreatDoor
open Go.RowKit

theorem wpList_append_wide {P : Program} (w : World) {ops : Array Oper} {rest : List Oper} {o : Oper} {a : Act} {Q : Exit → Act → World → Prop} (hgd : o.guard = none) (s x : Operand) (t : TypeId)
    (ho : o.op = .call { callee := .builtin .append, args := #[s, x], argTypes := #[t, t] })
    (base : Nat) (e : TypeId) (i : TypeInfo) (z : Value) (size bytes : Nat) (ht : P.underlying t = some (.slice e)) (hi : P.info? e = some i) (hz : i.zero = some z)
    (hsize : i.size = size) (hby : i.bytes = bytes) (hzs : z.cells.size = size) (hsz : 0 < size)
    (v : Value) (n : Nat) (xs : List Value) (hs : a.eval s = v) (hown : w.ownsRow base e size v n xs)
    (ad : Addr) (m c : Nat) (news : List Value) (hx : a.eval x = .slice (some ad) m c) (hl : news.length = m * size) (hm : 0 < m) (hnews : ∀ j u, news[j]? = some u → w.cell? (ad.add j) = some u) (h1 : ∀ u ∈ news, u.oneCell' = true)
    (h63 : n + m ≤ maxLen) (hbytes : (n + m) * bytes ≤ 140737488355328) (hbase : base ≤ w.heap.size)
    (h : ∀ v' w', w'.ownsRow base e size v' (n + m) (xs ++ news) → w.grownBy w' v.ownBlock → (v'.ownBlock = v.ownBlock ∨ v'.ownBlock = some w.heap.size) → wpList P ops Q rest (a.put o.dst v') w') : wpList P ops Q (o :: rest) a w := by
  refine wpList_plain hgd fun _ hK => ?_
  obtain ⟨v', w', hr, h2, h3, h4⟩ := run_append_own (P := P) w base t o.type e i z size bytes ht hi hz hsize hby hzs hsz v n xs hown ad m c news hl hnews h1 h63 hbytes hbase
  have hblk : v'.ownBlock = v.ownBlock ∨ v'.ownBlock = some w.heap.size := by
    have hl' : news.length = m * i.size := by rw [hsize]; exact hl
    rcases hown.2 with ⟨rfl, rfl⟩ | ⟨g, cap, cur, rfl, hbg, hg, hnc, hcm, hcs, htake⟩
    · have hr2 := run_append_nil (P := P) w t o.type e i z ht hi hz ad m c news hl' hnews hm (by simp only [maxLen] at h63; omega) (by rw [hby]; simp only [Nat.zero_add] at hbytes; omega)
      rw [hr2] at hr
      simp only [Result.ok.injEq] at hr
      exact Or.inr (by rw [← hr.1]; rfl)
    · by_cases hroom : n + m ≤ cap
      · have hfit : n * i.size + news.length ≤ cur.size := by rw [hl', hcs, hsize, ← Nat.add_mul]; exact Nat.mul_le_mul_right _ hroom
        have hr2 := run_append_room (P := P) w t o.type e i ht hi g n cap cur hg ad m c news hl' hnews h1 hroom hfit
        rw [hr2] at hr
        simp only [Result.ok.injEq] at hr
        exact Or.inl (by rw [← hr.1]; rfl)
      · have holds : ∀ j u, xs[j]? = some u → w.cell? ((⟨g, 0, none⟩ : Addr).add j) = some u := hown.cells (g := g) rfl
        have hr2 := run_append_grow (P := P) w t o.type e i z ht hi hz ⟨g, 0, none⟩ n cap xs (by rw [hsize]; exact hown.1) holds ad m c news hl' hnews (by omega) (by simp only [maxLen] at h63; omega) (by rw [hby]; exact growslice_fits (by omega) hbytes)
        rw [hr2] at hr
        simp only [Result.ok.injEq] at hr
        exact Or.inr (by rw [← hr.1]; rfl)
  unfold Oper.wp execOp
  simp only [ho, resolve, invoke, builtin, Sem.run_bind, Sem.run_pure, Result.andThen_ok, List.map_toArray, List.map_cons, List.map_nil, hs, hx, hr]
  exact hK _ _ (h v' w' h2 h3 hblk)

theorem owns_stay_wide {w w' : World} {base e size n : Nat} {v : Value} {xs : List Value} (h : w.ownsRow base e size v n xs) (hb : ∀ k, v.ownBlock = some k → w'.heap[k]? = w.heap[k]?) : w'.ownsRow base e size v n xs := by
  obtain ⟨h1, h2⟩ := h
  refine ⟨h1, ?_⟩
  rcases h2 with h2 | ⟨g, cap, cur, rfl, hbg, hg, r⟩
  · exact Or.inl h2
  · exact Or.inr ⟨g, cap, cur, rfl, hbg, by rw [hb g rfl]; exact hg, r⟩

/-- Rows of different types of elements lie in different blocks, whatever the elements' sizes. -/
theorem owns_ne_wide {w : World} {b1 b2 e1 e2 s1 s2 n1 n2 : Nat} {v1 v2 : Value} {x1 x2 : List Value} (h1 : w.ownsRow b1 e1 s1 v1 n1 x1) (h2 : w.ownsRow b2 e2 s2 v2 n2 x2) (hne : e1 ≠ e2) (k : Nat) (hk1 : v1.ownBlock = some k) (hk2 : v2.ownBlock = some k) : False := by
  rcases h1.2 with ⟨rfl, _⟩ | ⟨g, cap, cur, rfl, _, hg, _⟩
  · simp [Value.ownBlock] at hk1
  · rcases h2.2 with ⟨rfl, _⟩ | ⟨g2, cap2, cur2, rfl, _, hg2, _⟩
    · simp [Value.ownBlock] at hk2
    · simp only [Value.ownBlock, Option.some.injEq] at hk1 hk2
      rw [hk1] at hg
      rw [hk2, hg] at hg2
      simp only [Option.some.injEq, Obj.cells.injEq] at hg2
      exact hne hg2.2.1

theorem blk_ne_wide {w : World} {b : Nat} {cs : Array Value} {t : TypeId} {fz : Nat × Nat} (h : w.heap[b]? = some (.cells cs t fz)) {base e size n : Nat} {v : Value} {xs : List Value} (ho : w.ownsRow base e size v n xs) (hne : t ≠ e) : v.ownBlock ≠ some b := by
  rcases ho.2 with ⟨rfl, _⟩ | ⟨g, cap, cur, rfl, _, hg, _⟩
  · simp [Value.ownBlock]
  · intro he
    simp only [Value.ownBlock, Option.some.injEq] at he
    rw [he, h] at hg
    simp only [Option.some.injEq, Obj.cells.injEq] at hg
    exact hne hg.2.1

theorem owns_slice_wide {w : World} {base e size n : Nat} {v : Value} {xs : List Value} (h : w.ownsRow base e size v n xs) : ∃ a cap, v = .slice a n cap ∧ n ≤ cap := by
  rcases h.2 with ⟨rfl, rfl⟩ | ⟨g, cap, cur, rfl, _, _, hn, _⟩
  · exact ⟨none, 0, rfl, Nat.le_refl _⟩
  · exact ⟨_, cap, rfl, hn⟩

end Go.Proofs.YtocbogeoffeolaaGreatDoor

namespace Go.Proofs.YtocbogeoffeolaaGreatDoor
open Go.RowKit

set_option maxHeartbeats 400000 in
theorem wordByte_any (c : UInt8) (w : World) :
    Calls Tryz.prog 98 #[.int .u8 c.toNat] w fun e w' => e = .returned (.bool (letterB c)) ∧ w = w' := by
  go_enter Tryz.func98, Tryz.ntmps98
  go_wp2
  all_goals
    go_ret
    refine ⟨ret_bool ?_, rfl⟩
    unfold letterB
    rw [Bool.eq_iff_iff]
    simp only [decide_eq_true_eq, Bool.or_eq_true, true_iff, false_iff, Bool.false_eq_true]
    omega

set_option maxHeartbeats 400000 in
theorem isTyped_any (s : ByteArray) (w : World) (hs : s.size ≤ maxLen) :
    Calls Tryz.prog 48 #[.string s] w fun e w' => e = .returned (.bool (queryB s.data.toList)) ∧ w = w' := by
  unfold maxLen at hs
  by_cases h24 : s.size ≤ 24
  · have hd : decide (24 < (s.size : Int)) = false := by simp; omega
    go_enter Tryz.func48, Tryz.ntmps48
    go_wp2
    go_loop [9] (fun i => ∃ k : Nat, k ≤ s.size ∧ i = .int .i64 k ∧ (s.data.toList.take k).all plainB = true) (fun i => s.size - (intOf i).toNat)
    case atStart => exact ⟨0, Nat.zero_le _, rfl, rfl⟩
    case round =>
      obtain ⟨k, hk, rfl, hall⟩ := hrel
      have HA : Hid ((s.data.toList.take k).all plainB = true) := hall
      clear hall
      by_cases hlt : k < s.size
      · have hts := take_snoc s k hlt
        have HS : Hid (s.data.toList.take (k + 1) = s.data.toList.take k ++ [s[k]]) := hts
        clear hts
        by_cases hp : plainB s[k] = true
        · have HP : Hid (plainB s[k] = true) := hp
          have h1 : 32 ≤ (s[k].toNat : Int) := by simp [plainB] at hp; omega
          have h2 : (s[k].toNat : Int) ≤ 126 := by simp [plainB] at hp; omega
          clear hp
          go_wp2
          go_round
          case rel => exact ⟨k + 1, by omega, by go_num, by rw [HS.out, List.all_append, HA.out]; simp [HP.out]⟩
          case measure => simp [intOf]; omega
        · have HP : Hid (¬ plainB s[k] = true) := hp
          have h1 : (s[k].toNat : Int) < 32 ∨ 126 < (s[k].toNat : Int) := by simp [plainB] at hp; omega
          clear hp
          rcases h1 with h1 | h1
          all_goals
            go_wp2
            go_ret
            refine ⟨ret_bool ?_, rfl⟩
            symm
            rw [Bool.eq_false_iff]
            intro hq
            apply HP.out
            simp only [queryB, Bool.and_eq_true] at hq
            exact List.all_eq_true.1 hq.2 _ (mem_get s k hlt)
      · go_wp2
        go_ret
        refine ⟨ret_bool ?_, rfl⟩
        have e : s.data.toList.take k = s.data.toList := List.take_of_length_le (by simp; omega)
        have := HA.out
        rw [e] at this
        simp [queryB, this]; exact h24
  · go_enter Tryz.func48, Tryz.ntmps48
    go_wp2
    go_ret
    refine ⟨ret_bool ?_, rfl⟩
    simp [queryB]; omega

set_option maxHeartbeats 400000 in
theorem isText_any (s : ByteArray) (w : World) (hs : s.size ≤ maxLen) :
    Calls Tryz.prog 65 #[.string s] w fun e w' => e = .returned (.bool (decide (queryB s.data.toList = true ∧ s.data.toList ≠ []))) ∧ w = w' := by
  by_cases h0 : s.data.toList = []
  · have hs0 : s = ⟨#[]⟩ := by
      apply ByteArray.ext
      apply Array.toList_inj.1
      exact h0
    subst hs0
    clear h0
    go_enter Tryz.func65, Tryz.ntmps65
    go_wp2
    go_ret
    exact ⟨ret_bool (by simp), rfl⟩
  · have hnil : s.toList.isEmpty = false := by
      rw [ByteArray.toList_eq]
      cases h : s.data.toList with
      | nil => exact absurd h h0
      | cons a l => rfl
    have HQ : Hid (decide (queryB s.data.toList = true ∧ s.data.toList ≠ []) = queryB s.data.toList) := by
      show decide (queryB s.data.toList = true ∧ s.data.toList ≠ []) = queryB s.data.toList
      rw [Bool.eq_iff_iff, decide_eq_true_eq]
      exact ⟨fun h => h.1, fun h => ⟨h, h0⟩⟩
    clear h0
    go_enter Tryz.func65, Tryz.ntmps65
    go_wp2_with fail
    refine (isTyped_any _ _ hs).mono ?_
    rintro e w' ⟨rfl, rfl⟩
    go_wp2
    go_ret
    exact ⟨ret_bool (by rw [HQ.out]), rfl⟩

/-- A block that reads as these bytes, each of which may be written. -/
def BytesAt (w : World) (g : Nat) (l : List UInt8) : Prop := ∀ j (h : j < l.length), w.cell? ⟨g, j, none⟩ = some (.int .u8 l[j].toNat) ∧ w.frozen? ⟨g, j, none⟩ = false

theorem BytesAt.set {w : World} {g : Nat} {l : List UInt8} (h : BytesAt w g l) (k : Nat) (c : UInt8) (v : Value) (hv : v = .int .u8 c.toNat) : BytesAt (w.setCell ⟨g, k, none⟩ v) g (l.set k c) := by
  subst hv
  intro j hj
  have hj' : j < l.length := by simpa using hj
  obtain ⟨h1, h2⟩ := h j hj'
  refine ⟨?_, by rw [World.frozen?_setCell]; exact h2⟩
  by_cases e : k = j
  · subst e
    rw [World.cell?_setCell_same _ _ _ h1]
    simp
  · rw [World.cell?_setCell_other _ _ _ _ (by intro hh; simp at hh), h1]
    simp [e]

/-- Folded as far as that. -/
def foldTo (l : List UInt8) (k : Nat) : List UInt8 := foldL (l.take k) ++ l.drop k
theorem foldTo_len (l : List UInt8) (k : Nat) : (foldTo l k).length = l.length := by simp [foldTo, foldL]; omega
theorem foldTo_get (l : List UInt8) (k : Nat) (h : k < l.length) : (foldTo l k)[k]'(by rw [foldTo_len]; exact h) = l[k] := by
  unfold foldTo
  rw [List.getElem_append_right (by simp [foldL]; omega)]
  simp [foldL, Nat.min_eq_left (Nat.le_of_lt h)]
theorem foldTo_succ (l : List UInt8) (k : Nat) (h : k < l.length) : foldTo l (k + 1) = (foldTo l k).set k (lowB l[k]) := by
  unfold foldTo
  rw [List.take_succ_eq_append_getElem h, foldL_snoc]
  have hl : (foldL (l.take k)).length = k := by rw [foldL_length]; simp; omega
  rw [List.set_append_right _ _ (by omega), hl, Nat.sub_self, List.append_assoc]
  congr 1
  rw [List.drop_eq_getElem_cons h]
  rfl
theorem foldTo_all (l : List UInt8) : foldTo l l.length = foldL l := by simp [foldTo]
theorem foldTo_zero (l : List UInt8) : foldTo l 0 = l := by simp [foldTo, foldL]

set_option maxHeartbeats 1000000 in
set_option maxRecDepth 100000 in
theorem pfold_any (s : ByteArray) (w : World) (hs : s.size ≤ 1099511627776) :
    Calls Tryz.prog 50 #[.string s] w fun e w' => e = .returned (.string ⟨(foldL s.data.toList).toArray⟩) ∧ Below w.heap.size w w' := by
  have hcv := Lib.run_convert_string_bytes (P := Tryz.prog) w 9 60 5 s Tryz.underlying9 Tryz.underlying60 Tryz.underlying5
  go_enter Tryz.func50, Tryz.ntmps50
  obtain ⟨W0, hW0⟩ : ∃ W0, Lib.bytesWorld w 5 s = W0 := ⟨_, rfl⟩
  have hb0 : Below w.heap.size w W0 := by
    subst hW0
    exact ⟨rfl, rfl, rfl, by rw [Lib.bytesWorld_size]; omega, fun k hk => Lib.bytesWorld_at_old w _ s k hk⟩
  have hz0 : w.heap.size < W0.heap.size := by subst hW0; rw [Lib.bytesWorld_size]; omega
  have hA0 : BytesAt W0 w.heap.size (foldTo s.data.toList 0) := by
    rw [foldTo_zero]
    intro j hj
    have hj' : j < s.size := by simpa using hj
    subst hW0
    refine ⟨?_, ?_⟩
    · rw [Lib.bytesWorld_cell w _ s j hj', List.getD_eq_getElem?_getD, List.getElem?_eq_getElem hj]; rfl
    · simp [World.frozen?, Lib.bytesWorld_at_new]
      intro h
      simp [Lib.bytesCells] at h
      omega
  rw [hW0] at hcv
  clear hW0
  go_wp2
  go_loopw [10] (fun i wr => ∃ k : Nat, k ≤ s.size ∧ i = .int .i64 k ∧ BytesAt wr w.heap.size (foldTo s.data.toList k) ∧ Below w.heap.size w wr ∧ w.heap.size < wr.heap.size) (fun i _ => s.size - (intOf i).toNat)
  case atStart => exact ⟨0, Nat.zero_le _, rfl, hA0, hb0, hz0⟩
  case round =>
    obtain ⟨k, hk, rfl, hA, hb, hz⟩ := hrel
    by_cases hlt : k < s.size
    · have hl : k < s.data.toList.length := by simpa using hlt
      obtain ⟨hc, hf⟩ := hA k (by rw [foldTo_len]; exact hl)
      rw [foldTo_get _ _ hl] at hc
      have HE : Hid (foldTo s.data.toList (k + 1) = (foldTo s.data.toList k).set k (lowB s.data.toList[k])) := foldTo_succ _ _ hl
      have HG : Hid (s.data.toList.length = s.size) := by show _ = _; simp
      have HGet : Hid ((foldTo s.data.toList k)[k]'(by rw [foldTo_len]; exact hl) = s.data.toList[k]) := foldTo_get _ _ hl
      have HA : Hid (BytesAt wr w.heap.size (foldTo s.data.toList k)) := hA
      generalize s.data.toList[k] = c at *
      clear hA
      by_cases hup : 65 ≤ c.toNat ∧ c.toNat ≤ 90
      · have h1 : 65 ≤ (c.toNat : Int) := by omega
        have h2 : (c.toNat : Int) ≤ 90 := by omega
        have HL : Hid (((lowB c).toNat : Int) = (c.toNat : Int) + 32) := lowB_up _ hup
        clear hup
        go_wp2
        go_roundw
        case rel => exact ⟨k + 1, by omega, by go_num, by rw [HE.out]; exact HA.out.set k _ _ (by rw [HL.out]; go_num), Below.setCell hb (Nat.le_refl _) _, by simpa [World.setCell] using hz⟩
        case measure => simp [intOf]; omega
      · have HL : Hid (lowB c = c) := lowB_no _ hup
        have h12 : (c.toNat : Int) < 65 ∨ 90 < (c.toNat : Int) := by omega
        have HS : Hid (foldTo s.data.toList (k + 1) = foldTo s.data.toList k) := by
          show _ = _
          rw [HE.out, HL.out, ← HGet.out]
          simp
        clear hup
        rcases h12 with h1 | h1
        all_goals
          go_wp2
          go_roundw
          case rel => exact ⟨k + 1, by omega, by go_num, by rw [HS.out]; exact HA.out, hb, hz⟩
          case measure => simp [intOf]; omega
    · have ek : k = s.size := by omega
      subst ek
      have hl : (foldL s.data.toList).length = s.size := by rw [foldL_length]; simp
      have e1 : foldTo s.data.toList s.size = foldL s.data.toList := by
        have : s.size = s.data.toList.length := by simp
        rw [this, foldTo_all]
      rw [e1] at hA
      have hconv := run_convert_bytes_back (P := Tryz.prog) wr 60 9 5 ⟨w.heap.size, 0, none⟩ (grownCap w s.size 0 5) (foldL s.data.toList) Tryz.underlying60 Tryz.underlying5 Tryz.underlying9 (fun j hj => by
        have := (hA j hj).1
        have e2 : (⟨w.heap.size, 0, none⟩ : Addr).add j = ⟨w.heap.size, j, none⟩ := by
          unfold Addr.add
          split
          · rename_i h; rw [h]
          · simp
        rw [e2]; exact this)
      rw [hl] at hconv
      clear hl e1
      go_wp2
      go_ret
      exact ⟨rfl, hb⟩

end Go.Proofs.YtocbogeoffeolaaGreatDoor

