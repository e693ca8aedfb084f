/-
  SMALL LAWS of my own on worlds: a slice of the program's own that grows by one element; what a call that makes memory leaves alone.
-/
import Derived.WalkKit
import Derived.WalkSpells
import Derived.Test.YtocbogeoffeolaaGreatDoorPlain
namespace Go.Proofs.YtocbogeoffeolaaGreatDoor
open Go.RowKit

/-- Append of ONE element of one cell onto a row that is owned. -/
theorem wpList_append_one {P : Program} (w : World) {ops : Array Oper} {rest : List Oper} {o : Oper} {a : Act} {Q : Exit → Act → World → Prop} (hgd : o.guard = none) (s x : Operand) (t : TypeId)
    (ho : o.op = .call { callee := .builtin .append, args := #[s, x], argTypes := #[t, t] })
    (base : Nat) (e : TypeId) (i : TypeInfo) (z : Value) (bytes : Nat) (ht : P.underlying t = some (.slice e)) (hi : P.info? e = some i) (hz : i.zero = some z)
    (hsize : i.size = 1) (hby : i.bytes = bytes) (hzs : z.cells.size = 1)
    (v : Value) (n : Nat) (xs : List Value) (hs : a.eval s = v) (hown : w.ownsRow base e 1 v n xs)
    (ad : Addr) (y : Value) (hx : a.eval x = .slice (some ad) 1 1) (hcell : w.cell? ad = some y) (h1 : y.oneCell' = true)
    (hbytes : (n + 1) * bytes ≤ 140737488355328) (h63 : n + 1 ≤ maxLen) (hbase : base ≤ w.heap.size)
    (h : ∀ v' w', w'.ownsRow base e 1 v' (n + 1) (xs ++ [y]) → w.grownBy w' v.ownBlock → v' ≠ .slice none 0 0 → wpList P ops Q rest (a.put o.dst v') w') : wpList P ops Q (o :: rest) a w := by
  refine wpList_append_own w hgd s x t ho base e i z 1 bytes ht hi hz hsize hby hzs (by decide) v n xs hs hown ad 1 1 [y] hx rfl ?_ ?_ h63 hbytes hbase ?_
  · intro j u hj
    match j, hj with
    | 0, hj => simp at hj; subst hj; simpa [Addr.add] using hcell
    | j + 1, hj => simp at hj
  · intro u hu; simp at hu; subst hu; exact h1
  · intro v' w' h2 h3 h4
    refine h v' w' h2 h3 ?_
    intro he
    have := h4.1 he
    simp at this

theorem cell_new {w : World} {v : Value} {t : TypeId} : (w.alloc (.cells #[v] t)).cell? ⟨w.heap.size, 0, none⟩ = some v := by
  rw [World.cell?_alloc_at _ _ _ _ rfl]; rfl

theorem push_bytes : ∀ (l : List UInt8) (s : ByteArray), (l.map fun c => (c.toNat : Int)).foldl (fun r n => r.push (UInt8.ofNat n.toNat)) s = ⟨s.data ++ l.toArray⟩ := by
  intro l
  induction l with
  | nil => intro s; simp
  | cons c l ih =>
    intro s
    rw [List.map_cons, List.foldl_cons, ih]
    have : UInt8.ofNat ((c.toNat : Int).toNat) = c := by simp
    rw [this]
    have : (s.push c).data = s.data.push c := rfl
    rw [this]
    simp

theorem conv_bytes {P : Program} {w : World} {base u8 src dst n : Nat} {v : Value} {l : List UInt8} (h : w.ownsRow base u8 1 v n (byteVals l))
    (hs : P.underlying src = some (.slice u8)) (he : P.underlying u8 = some (.int .u8)) (hd : P.underlying dst = some .string) :
    (convert src dst v).run P w = .ok (.string ⟨l.toArray⟩) w := by
  have h0 := h
  obtain ⟨hlen, h⟩ := h
  rcases h with ⟨rfl, rfl⟩ | ⟨g, cap, cur, rfl, _, hg, _, _, hcs, htk⟩
  · have : l = [] := by simpa [byteVals] using hlen
    subst this
    rw [run_convert_bytes_string w src dst u8 _ _ _ hs he hd]
    rfl
  · rw [run_convert_bytes_string w src dst u8 _ _ _ hs he hd]
    have hn : n = l.length := by rw [byteVals_length] at hlen; omega
    have hl := run_loadCells_list (P := P) w ⟨g, 0, none⟩ (byteVals l) (h0.cells rfl)
    rw [byteVals_length, ← hn] at hl
    have e : byteVals l = (l.map fun c => (c.toNat : Int)).map (Value.int .u8) := by simp [byteVals]
    rw [e] at hl
    rw [run_bytesToString w _ _ _ _ hl, push_bytes]
    simp

/-- A statement that is walked by itself, apart from all that follows: it ends as every statement does, and the frame and the world behind it are what R says. -/
theorem wp_apart {P : Program} {s : Code} {Q : Exit → Act → World → Prop} {a : Act} {w : World} (R : Act → World → Prop)
    (first : s.wp P (fun e a' w' => e = .normal ∧ R a' w') a w) (rest : ∀ a' w', R a' w' → Q .normal a' w') : s.wp P Q a w := by
  refine wp_mono first ?_
  rintro e a' w' ⟨rfl, h⟩
  exact rest a' w' h

end Go.Proofs.YtocbogeoffeolaaGreatDoor
