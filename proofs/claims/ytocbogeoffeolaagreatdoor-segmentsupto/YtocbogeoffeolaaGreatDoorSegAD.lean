/-
  READING AND APPENDING rows whose elements have several cells (entries).
  ENTRIES: as the document's own answer keeps them; as the cells of a row.
  WALKS: the document's own answer: over, living, gone.
  WALKS: the document's own answer: IsName, there.
  WALKS: the document's own answer: Upsert, Delete.
  WALKS: the document's own answer: Delete.
  WALKS: the document's own answer: Flush.
  WALKS: the document's own answer: Flush, walked.
-/
import Derived.Test.YtocbogeoffeolaaGreatDoorSegAA
import Derived.Test.YtocbogeoffeolaaGreatDoorSegAB
import Derived.Deep.Light
namespace Go.Proofs.YtocbogeoffeolaaGreatDoor
open Go.RowKit

/-- The slice v, of n elements of s cells each, reads as the cells xs. -/
def RdW (w : World) (s : Nat) (v : Value) (n : Nat) (xs : List Value) : Prop :=
  ∃ a cap, v = .slice a n cap ∧ n ≤ cap ∧ cap ≤ maxLen ∧ xs.length = n * s ∧ ∀ j u, xs[j]? = some u → ∃ b off, a = some ⟨b, off, none⟩ ∧ w.cell? ⟨b, off + j, none⟩ = some u

theorem RdW.of_owns {w : World} {base e s n : Nat} {v : Value} {xs : List Value} (h : w.ownsRow base e s v n xs) : RdW w s v n xs := by
  have h0 := h
  obtain ⟨hl, h⟩ := h
  rcases h with ⟨rfl, rfl⟩ | ⟨g, cap, cur, rfl, _, hg, hn, hcm, hcs, htk⟩
  · have : xs = [] := List.eq_nil_of_length_eq_zero (by simpa using hl)
    subst this
    exact ⟨none, 0, rfl, Nat.le_refl _, by unfold maxLen; omega, by simp, by simp⟩
  · refine ⟨some ⟨g, 0, none⟩, cap, rfl, hn, hcm, hl, fun j u hj => ⟨g, 0, rfl, ?_⟩⟩
    have := h0.cells (g := g) rfl j u hj
    rwa [Addr.add_lit] at this

theorem RdW.nil (w : World) (s : Nat) : RdW w s (.slice none 0 0) 0 [] := ⟨none, 0, rfl, Nat.le_refl _, by unfold maxLen; omega, by simp, by simp⟩

theorem RdW.later {w w' : World} {s n : Nat} {v : Value} {xs : List Value} (h : RdW w s v n xs) (hc : ∀ a u, w.cell? a = some u → w'.cell? a = some u) : RdW w' s v n xs := by
  obtain ⟨a, cap, he, h1, h2, hl, hr⟩ := h
  refine ⟨a, cap, he, h1, h2, hl, fun j u hj => ?_⟩
  obtain ⟨b, off, e, hcell⟩ := hr j u hj
  exact ⟨b, off, e, hc _ _ hcell⟩
theorem RdW.below {w w' : World} {s n : Nat} {v : Value} {xs : List Value} (h : RdW w s v n xs) (hb : Below w.heap.size w w') : RdW w' s v n xs := h.later fun _ _ hc => cell_later hb hc

/-- The first k elements. -/
theorem RdW.take {w : World} {s n cap : Nat} {a : Option Addr} {xs : List Value} (h : RdW w s (.slice a n cap) n xs) (k : Nat) (hk : k ≤ n) : RdW w s (.slice a k cap) k (xs.take (k * s)) := by
  obtain ⟨a', cap', he, h1, h2, hl, hr⟩ := h
  simp only [Value.slice.injEq] at he
  obtain ⟨rfl, _, rfl⟩ := he
  have hks : k * s ≤ n * s := Nat.mul_le_mul_right _ hk
  refine ⟨a, cap, rfl, by omega, h2, by simp; omega, fun j u hj => hr j u ?_⟩
  rw [List.getElem?_take] at hj
  split at hj
  · exact hj
  · simp at hj

/-- Those from the k-th on. -/
theorem RdW.drop_lt {w : World} {s n cap b off : Nat} {xs : List Value} (h : RdW w s (.slice (some ⟨b, off, none⟩) n cap) n xs) (k : Nat) (hk : k ≤ n) : RdW w s (.slice (some ⟨b, off + k * s, none⟩) (n - k) (cap - k)) (n - k) (xs.drop (k * s)) := by
  obtain ⟨a', cap', he, h1, h2, hl, hr⟩ := h
  simp only [Value.slice.injEq] at he
  obtain ⟨rfl, _, rfl⟩ := he
  refine ⟨_, cap - k, rfl, by omega, by omega, by rw [List.length_drop, hl, Nat.sub_mul], fun j u hj => ⟨b, off + k * s, rfl, ?_⟩⟩
  rw [List.getElem?_drop] at hj
  obtain ⟨b', off', e, hc⟩ := hr (k * s + j) u hj
  simp only [Option.some.injEq, Addr.mk.injEq] at e
  obtain ⟨rfl, rfl, _⟩ := e
  rw [Nat.add_assoc]; exact hc
theorem RdW.empty {w : World} {s : Nat} {a : Option Addr} {n c : Nat} (hn : n = 0) (hc : c ≤ maxLen) : RdW w s (.slice a n c) n [] := by
  subst hn
  exact ⟨a, c, rfl, Nat.zero_le _, hc, by simp, by simp⟩

theorem run_append_w {P : Program} (w : World) (base : Nat) (t ty e : TypeId) (i : TypeInfo) (z : Value) (size bytes : Nat) (ht : P.underlying t = some (.slice e)) (hi : P.info? e = some i) (hz : i.zero = some z)
    (hsize : i.size = size) (hby : i.bytes = bytes) (hzs : z.cells.size = size) (hsz : 0 < size)
    (v : Value) (n : Nat) (xs : List Value) (hown : w.ownsRow base e size v n xs)
    (x : Value) (m : Nat) (news : List Value) (hx : RdW w size x m news) (h1 : ∀ u ∈ news, u.oneCell' = true)
    (hbytes : (n + m) * bytes ≤ 140737488355328) (h63 : n + m ≤ maxLen) (hbase : base ≤ w.heap.size) :
    ∃ v' w', (Builtin.append_ #[t, t] ty #[v, x]).run P w = .ok v' w' ∧ w'.ownsRow base e size v' (n + m) (xs ++ news) ∧ w.grownBy w' v.ownBlock ∧ (v'.ownBlock = v.ownBlock ∨ (v'.ownBlock = some w.heap.size ∧ Below w.heap.size w w')) := by
  obtain ⟨a, cap, rfl, hc, hm, hl, hrd⟩ := hx
  by_cases hm0 : m = 0
  · subst hm0
    have hn : news = [] := List.eq_nil_of_length_eq_zero (by simpa using hl)
    subst hn
    obtain ⟨b, c, rfl, hnc⟩ := owns_slice_wide hown
    have hr : (Builtin.append_ #[t, t] ty #[.slice b n c, .slice a 0 cap]).run P w = .ok (.slice b n c) w := by
      cases a with
      | none => exact run_append_none (P := P) w t ty e i ht hi b n c cap hnc
      | some ad =>
        cases b <;> simp [Builtin.append_, run_underlying ht, sizeOf, typeInfo, hi, Builtin.lenOf, Builtin.firstCells, hnc, storeCells, loadCells, loadCellsFrom]
    exact ⟨_, w, hr, by simpa using hown, World.grownBy.refl _ _, Or.inl rfl⟩
  · have hpos : 0 < news.length := by rw [hl]; exact Nat.mul_pos (by omega) hsz
    obtain ⟨b, off, ha, _⟩ := hrd 0 news[0] (List.getElem?_eq_getElem hpos)
    subst ha
    have hnews : ∀ j u, news[j]? = some u → w.cell? ((⟨b, off, none⟩ : Addr).add j) = some u := by
      intro j u hj
      obtain ⟨b', off', he, hcell⟩ := hrd j u hj
      simp only [Option.some.injEq, Addr.mk.injEq] at he
      obtain ⟨rfl, rfl, _⟩ := he
      rw [Addr.add_lit]; exact hcell
    obtain ⟨v', w', hr, h2, h3, _⟩ := run_append_own (P := P) w base t ty e i z size bytes ht hi hz hsize hby hzs hsz v n xs hown ⟨b, off, none⟩ m cap news hl hnews h1 h63 hbytes hbase
    refine ⟨v', w', hr, h2, h3, ?_⟩
    have hl' : news.length = m * i.size := by rw [hsize]; exact hl
    rcases hown.2 with ⟨rfl, rfl⟩ | ⟨g, c, cur, rfl, hbg, hg, hnc, hcm, hcs, htake⟩
    · have hr2 := run_append_nil (P := P) w t ty e i z ht hi hz ⟨b, off, none⟩ m cap news hl' hnews (by omega) (by simp only [maxLen] at h63; omega) (by rw [hby]; simp only [Nat.zero_add] at hbytes; omega)
      rw [hr2] at hr
      simp only [Result.ok.injEq] at hr
      exact Or.inr ⟨by rw [← hr.1]; rfl, by rw [← hr.2]; exact ((Below.refl _ _).drew).alloc (Nat.le_refl _) _⟩
    · by_cases hroom : n + m ≤ c
      · have hfit : n * i.size + news.length ≤ cur.size := by rw [hl', hcs, hsize, ← Nat.add_mul]; exact Nat.mul_le_mul_right _ hroom
        have hr2 := run_append_room (P := P) w t ty e i ht hi g n c cur hg ⟨b, off, none⟩ m cap news hl' hnews h1 hroom hfit
        rw [hr2] at hr
        simp only [Result.ok.injEq] at hr
        exact Or.inl (by rw [← hr.1]; rfl)
      · have holds : ∀ j u, xs[j]? = some u → w.cell? ((⟨g, 0, none⟩ : Addr).add j) = some u := hown.cells (g := g) rfl
        have hr2 := run_append_grow (P := P) w t ty e i z ht hi hz ⟨g, 0, none⟩ n c xs (by rw [hsize]; exact hown.1) holds ⟨b, off, none⟩ m cap news hl' hnews (by omega) (by simp only [maxLen] at h63; omega) (by rw [hby]; exact growslice_fits (by omega) hbytes)
        rw [hr2] at hr
        simp only [Result.ok.injEq] at hr
        exact Or.inr ⟨by rw [← hr.1]; rfl, by rw [← hr.2]; exact ((Below.refl _ _).drew).alloc (Nat.le_refl _) _⟩

theorem wpList_append_w {P : Program} (w : World) {ops : Array Oper} {rest : List Oper} {o : Oper} {a : Act} {Q : Exit → Act → World → Prop} (hgd : o.guard = none) (s x : Operand) (t : TypeId)
    (ho : o.op = .call { callee := .builtin .append, args := #[s, x], argTypes := #[t, t] })
    (base : Nat) (e : TypeId) (i : TypeInfo) (z : Value) (size bytes : Nat) (ht : P.underlying t = some (.slice e)) (hi : P.info? e = some i) (hz : i.zero = some z)
    (hsize : i.size = size) (hby : i.bytes = bytes) (hzs : z.cells.size = size) (hsz : 0 < size)
    (v : Value) (n : Nat) (xs : List Value) (hs : a.eval s = v) (hown : w.ownsRow base e size v n xs)
    (y : Value) (m : Nat) (news : List Value) (hx : a.eval x = y) (hy : RdW w size y m news) (h1 : ∀ u ∈ news, u.oneCell' = true)
    (hbytes : (n + m) * bytes ≤ 140737488355328) (h63 : n + m ≤ maxLen) (hbase : base ≤ w.heap.size)
    (h : ∀ v' w', w'.ownsRow base e size v' (n + m) (xs ++ news) → w.grownBy w' v.ownBlock → (v'.ownBlock = v.ownBlock ∨ (v'.ownBlock = some w.heap.size ∧ Below w.heap.size w w')) → wpList P ops Q rest (a.put o.dst v') w') : wpList P ops Q (o :: rest) a w := by
  refine wpList_plain hgd fun _ hK => ?_
  obtain ⟨v', w', hr, h2, h3, h4⟩ := run_append_w (P := P) w base t o.type e i z size bytes ht hi hz hsize hby hzs hsz v n xs hown y m news hy h1 hbytes h63 hbase
  unfold Oper.wp execOp
  simp only [ho, resolve, invoke, builtin, Sem.run_bind, Sem.run_pure, Result.andThen_ok, List.map_toArray, List.map_cons, List.map_nil, hs, hx, hr]
  exact hK _ _ (h v' w' h2 h3 h4)

end Go.Proofs.YtocbogeoffeolaaGreatDoor

namespace Go.Proofs.YtocbogeoffeolaaGreatDoor
open Go.RowKit

structure Ent where
  name : Wd
  gone : Bool
  text : Wd
  weight : Int
  tags : Int

def entCells (e : Ent) : List Value := [.string ⟨e.name.toArray⟩, .bool e.gone, .string ⟨e.text.toArray⟩, .int .i64 e.weight, .int .i64 e.tags]
def entVals (es : List Ent) : List Value := es.flatMap entCells

theorem entCells_len (e : Ent) : (entCells e).length = 5 := rfl
theorem entVals_len (es : List Ent) : (entVals es).length = es.length * 5 := by
  induction es with
  | nil => rfl
  | cons e es ih => simp only [entVals, List.flatMap_cons, List.length_append, entCells_len, List.length_cons] at ih ⊢; omega
theorem entVals_snoc (es : List Ent) (e : Ent) : entVals (es ++ [e]) = entVals es ++ entCells e := by simp [entVals]
theorem entVals_append (es fs : List Ent) : entVals (es ++ fs) = entVals es ++ entVals fs := by simp [entVals]
theorem entVals_get (es : List Ent) : ∀ (i : Nat) (h : i < es.length) (f : Nat), f < 5 → (entVals es)[i * 5 + f]? = (entCells es[i])[f]? := by
  induction es with
  | nil => intro i h; simp at h
  | cons a es ih =>
    intro i h f hf
    have e : entVals (a :: es) = entCells a ++ entVals es := by simp [entVals]
    rw [e]
    cases i with
    | zero => rw [List.getElem?_append_left (by rw [entCells_len]; omega)]; simp
    | succ i =>
      rw [List.getElem?_append_right (by rw [entCells_len]; omega), entCells_len, show (i + 1) * 5 + f - 5 = i * 5 + f by omega]
      have := ih i (by simpa using h) f hf
      simpa using this
theorem entVals_take (es : List Ent) (k : Nat) : entVals (es.take k) = (entVals es).take (k * 5) := by
  induction es generalizing k with
  | nil => simp [entVals]
  | cons a es ih =>
    cases k with
    | zero => simp [entVals]
    | succ k =>
      have e : entVals (a :: es) = entCells a ++ entVals es := by simp [entVals]
      have e2 : entVals ((a :: es).take (k + 1)) = entCells a ++ entVals (es.take k) := by simp [entVals]
      rw [e, e2, ih, List.take_append, entCells_len, List.take_of_length_le (l := entCells a) (by rw [entCells_len]; omega), show (k + 1) * 5 - 5 = k * 5 by omega]
theorem entVals_drop (es : List Ent) (k : Nat) : entVals (es.drop k) = (entVals es).drop (k * 5) := by
  induction es generalizing k with
  | nil => simp [entVals]
  | cons a es ih =>
    cases k with
    | zero => simp [entVals]
    | succ k =>
      have e : entVals (a :: es) = entCells a ++ entVals es := by simp [entVals]
      rw [List.drop_succ_cons, ih, e, List.drop_append, entCells_len, List.drop_of_length_le (l := entCells a) (by rw [entCells_len]; omega), show (k + 1) * 5 - 5 = k * 5 by omega]
      rfl
theorem entVals_one {es : List Ent} : ∀ u ∈ entVals es, u.oneCell' = true := by
  intro u hu
  simp only [entVals, List.mem_flatMap] at hu
  obtain ⟨e, _, hu⟩ := hu
  simp only [entCells, List.mem_cons, List.not_mem_nil, or_false] at hu
  rcases hu with rfl | rfl | rfl | rfl | rfl <;> rfl

/-- The five cells of an entry of a list that reads. -/
theorem ent_cells {w : World} {n : Nat} {a : Option Addr} {m cap : Nat} {es : List Ent} (h : RdW w 5 (.slice a m cap) n (entVals es)) (i : Nat) (hi : i < es.length) : ∃ b off, a = some ⟨b, off, none⟩ ∧
    w.cell? ⟨b, off + i * 5, none⟩ = some (.string ⟨es[i].name.toArray⟩) ∧ w.cell? ⟨b, off + i * 5 + 1, none⟩ = some (.bool es[i].gone) ∧ w.cell? ⟨b, off + i * 5 + 2, none⟩ = some (.string ⟨es[i].text.toArray⟩) ∧
    w.cell? ⟨b, off + i * 5 + 3, none⟩ = some (.int .i64 es[i].weight) ∧ w.cell? ⟨b, off + i * 5 + 4, none⟩ = some (.int .i64 es[i].tags) := by
  obtain ⟨a', cap', he, _, _, _, hr⟩ := h
  simp only [Value.slice.injEq] at he
  obtain ⟨rfl, _, rfl⟩ := he
  have g := fun (f : Nat) (hf : f < 5) (u : Value) (hu : (entCells es[i])[f]? = some u) => hr (i * 5 + f) u (by rw [entVals_get es i hi f hf]; exact hu)
  obtain ⟨b, off, ha, c0⟩ := g 0 (by omega) _ rfl
  subst ha
  refine ⟨b, off, rfl, c0, ?_, ?_, ?_, ?_⟩
  · obtain ⟨b', off', e, c⟩ := g 1 (by omega) _ rfl
    simp only [Option.some.injEq, Addr.mk.injEq] at e
    obtain ⟨rfl, rfl, _⟩ := e; exact c
  · obtain ⟨b', off', e, c⟩ := g 2 (by omega) _ rfl
    simp only [Option.some.injEq, Addr.mk.injEq] at e
    obtain ⟨rfl, rfl, _⟩ := e; exact c
  · obtain ⟨b', off', e, c⟩ := g 3 (by omega) _ rfl
    simp only [Option.some.injEq, Addr.mk.injEq] at e
    obtain ⟨rfl, rfl, _⟩ := e; exact c
  · obtain ⟨b', off', e, c⟩ := g 4 (by omega) _ rfl
    simp only [Option.some.injEq, Addr.mk.injEq] at e
    obtain ⟨rfl, rfl, _⟩ := e; exact c

/-- One entry that has just been laid in a block of its own. -/
theorem RdW.one_ent {w : World} {b : Nat} {e : Ent} {t : TypeId} (hb : b = w.heap.size) : RdW (w.alloc (.cells #[.string ⟨e.name.toArray⟩, .bool e.gone, .string ⟨e.text.toArray⟩, .int .i64 e.weight, .int .i64 e.tags] t)) 5 (.slice (some ⟨b, 0, none⟩) 1 1) 1 (entCells e) := by
  refine ⟨some ⟨b, 0, none⟩, 1, rfl, Nat.le_refl _, by unfold maxLen; omega, rfl, fun j u hj => ⟨b, 0, rfl, ?_⟩⟩
  rw [World.cell?_alloc_at _ _ _ _ hb, Nat.zero_add]
  match j, hj with
  | 0, hj => simpa [entCells] using hj
  | 1, hj => simpa [entCells] using hj
  | 2, hj => simpa [entCells] using hj
  | 3, hj => simpa [entCells] using hj
  | 4, hj => simpa [entCells] using hj
  | j + 5, hj => simp [entCells] at hj

theorem Tryz.infoEnt : (Tryz.prog.info? 202).map (fun i => (i.zero, i.size, i.bytes)) = some (some (.agg #[.string ⟨#[]⟩, .bool false, .string ⟨#[]⟩, .int .i64 0, .int .i64 0]), 5, 56) := by kernel_rfl

/-- find: the place of a name. -/
def findI (l : List Ent) (x : Wd) : Option Nat := l.findIdx? fun e => e.name == x
def findV : Option Nat → Int
  | none => -1
  | some i => (i : Int)

theorem findI_none (l : List Ent) (x : Wd) (h : ∀ j (hj : j < l.length), (l[j].name == x) = false) : findI l x = none := by
  unfold findI
  rw [List.findIdx?_eq_none_iff]
  intro e he
  obtain ⟨j, hj, rfl⟩ := List.getElem_of_mem he
  exact h j hj
theorem findI_some (l : List Ent) (x : Wd) (k : Nat) (hk : k < l.length) (h : ∀ j (hj : j < k), (l[j].name == x) = false) (hx : (l[k].name == x) = true) : findI l x = some k := by
  unfold findI
  rw [List.findIdx?_eq_some_iff_getElem]
  exact ⟨hk, hx, fun j hj => by simpa using h j hj⟩

set_option maxHeartbeats 400000 in
set_option maxRecDepth 100000 in
theorem find_any (v : Value) (l : List Ent) (x : Wd) (w : World) (hv : RdW w 5 v l.length (entVals l)) :
    Calls Tryz.prog 144 #[v, .string ⟨x.toArray⟩] w fun e w' => e = .returned (.int .i64 (findV (findI l x))) ∧ w = w' := by
  obtain ⟨a, cap, rfl, hc, hm, _, _⟩ := id hv
  have HV : Hid (RdW w 5 (.slice a l.length cap) l.length (entVals l)) := hv
  clear hv
  unfold maxLen at hm
  go_enter Tryz.func144, Tryz.ntmps144
  go_wp2
  go_loop [5] (fun i => ∃ k : Nat, k ≤ l.length ∧ i = .int .i64 k ∧ ∀ j (hj : j < k) (hj' : j < l.length), (l[j].name == x) = false) (fun i => l.length - (intOf i).toNat)
  case atStart => exact ⟨0, Nat.zero_le _, rfl, fun _ h => by omega⟩
  case round =>
    obtain ⟨k, hk, rfl, hall⟩ := hrel
    have HA : Hid (∀ j (hj : j < k) (hj' : j < l.length), (l[j].name == x) = false) := hall
    clear hall
    by_cases hlt : k < l.length
    · obtain ⟨b, off, rfl, c0, _, _, _, _⟩ := ent_cells HV.out k hlt
      cases hx : l[k].name == x with
      | true =>
        have HF : Hid (findI l x = some k) := findI_some l x k hlt (fun j hj => HA.out j hj (by omega)) hx
        go_wp2
        go_ret
        exact ⟨ret_int (by rw [HF.out]; rfl), rfl⟩
      | false =>
        have HX : Hid ((l[k].name == x) = false) := hx
        go_wp2
        go_round
        case rel => exact ⟨k + 1, by omega, by go_num, fun j hj hj' => by
          by_cases e : j = k
          · subst e; exact HX.out
          · exact HA.out j (by omega) hj'⟩
        case measure => simp [intOf]; omega
    · have HF : Hid (findI l x = none) := findI_none l x (fun j hj => HA.out j (by omega) hj)
      go_wp2
      go_ret
      exact ⟨ret_int (by rw [HF.out]; rfl), rfl⟩

end Go.Proofs.YtocbogeoffeolaaGreatDoor

namespace Go.Proofs.YtocbogeoffeolaaGreatDoor
open Go.RowKit

def keepsB (later : List Ent) (e : Ent) : Bool := (findI later e.name).isNone
def overL (old later : List Ent) : List Ent := old.filter (keepsB later) ++ later
def livingL (l : List Ent) : List Ent := l.filter fun e => !e.gone
def keptTo (old later : List Ent) (k : Nat) : List Ent := (old.take k).filter (keepsB later)
def livTo (l : List Ent) (k : Nat) : List Ent := (l.take k).filter fun e => !e.gone

theorem keptTo_yes (old later : List Ent) (k : Nat) (h : k < old.length) (hk : keepsB later old[k] = true) : keptTo old later (k + 1) = keptTo old later k ++ [old[k]] := by
  unfold keptTo
  rw [List.take_succ_eq_append_getElem h, List.filter_append]
  simp [hk]
theorem keptTo_no (old later : List Ent) (k : Nat) (h : k < old.length) (hk : keepsB later old[k] = false) : keptTo old later (k + 1) = keptTo old later k := by
  unfold keptTo
  rw [List.take_succ_eq_append_getElem h, List.filter_append]
  simp [hk]
theorem keptTo_len (old later : List Ent) (k : Nat) : (keptTo old later k).length ≤ k := by
  have := List.length_filter_le (keepsB later) (old.take k)
  unfold keptTo
  simp at this ⊢; omega
theorem livTo_yes (l : List Ent) (k : Nat) (h : k < l.length) (hk : l[k].gone = false) : livTo l (k + 1) = livTo l k ++ [l[k]] := by
  unfold livTo
  rw [List.take_succ_eq_append_getElem h, List.filter_append]
  simp [hk]
theorem livTo_no (l : List Ent) (k : Nat) (h : k < l.length) (hk : l[k].gone = true) : livTo l (k + 1) = livTo l k := by
  unfold livTo
  rw [List.take_succ_eq_append_getElem h, List.filter_append]
  simp [hk]
theorem livTo_len (l : List Ent) (k : Nat) : (livTo l k).length ≤ k := by
  have := List.length_filter_le (fun e : Ent => !e.gone) (l.take k)
  unfold livTo
  simp at this ⊢; omega

set_option maxHeartbeats 1000000 in
set_option maxRecDepth 100000 in
theorem living_any (v : Value) (l : List Ent) (w : World) (hv : RdW w 5 v l.length (entVals l)) (hl : l.length ≤ 1073741824) :
    Calls Tryz.prog 147 #[v] w fun e w' => ∃ u, e = .returned u ∧ w'.ownsRow w.heap.size 202 5 u (livingL l).length (entVals (livingL l)) ∧ Below w.heap.size w w' := by
  obtain ⟨i5, hi5, hz0, hz1, hz2⟩ := info_parts Tryz.infoEnt
  obtain ⟨a, cap, rfl, hc, hm, _, _⟩ := id hv
  have HV : Hid (RdW w 5 (.slice a l.length cap) l.length (entVals l)) := hv
  clear hv
  unfold maxLen at hm
  go_enter Tryz.func147, Tryz.ntmps147
  go_wp2
  go_loopw [3, 4] (fun v i wr => ∃ k : Nat, k ≤ l.length ∧ i = .int .i64 k ∧ wr.ownsRow w.heap.size 202 5 v (livTo l k).length (entVals (livTo l k)) ∧ Below w.heap.size w wr) (fun _ i _ => l.length - (intOf i).toNat)
  case atStart => exact ⟨0, Nat.zero_le _, rfl, World.ownsRow_nil _ _ _ _, Below.refl _ _⟩
  case round =>
    obtain ⟨k, hk, rfl, hown, hbel⟩ := hrel
    have HS := hbel.size
    have hll := livTo_len l k
    by_cases hlt : k < l.length
    · obtain ⟨b, off, rfl, c0, c1, c2, c3, c4⟩ := ent_cells (HV.out.below hbel) k hlt
      cases hg : l[k].gone with
      | false =>
        have HE : Hid (entVals (livTo l (k + 1)) = entVals (livTo l k) ++ entCells l[k]) := by show _ = _; rw [livTo_yes l k hlt hg, entVals_snoc]
        have HN : Hid ((livTo l k).length + 1 = (livTo l (k + 1)).length) := by show _ = _; rw [livTo_yes l k hlt hg]; simp
        rw [hg] at c1
        have HGo : Hid (l[k].gone = false) := hg
        clear hg
        go_wp2_with (at_builtin; go_must (refine wpList_append_w _ rfl _ _ 75 rfl w.heap.size 202 i5 _ 5 56 Tryz.underlying75 hi5 hz0 hz1 hz2 rfl (by decide) _ _ _ rfl (hown.alloc _) _ 1 (entCells l[k]) rfl ?c0 ?c1 ?c2 ?c3 ?c4 ?_))
        case c0 => go_light; have := RdW.one_ent (w := wr) (b := wr.heap.size) (e := l[k]) (t := 202) rfl; rw [HGo.out] at this; exact this
        case c1 => intro u hu; exact entVals_one (es := [l[k]]) u (by simpa [entVals] using hu)
        case c2 => omega
        case c3 => unfold maxLen; omega
        case c4 => simp; omega
        intro v' w1 hown' hgrow _
        rw [← HE.out, HN.out] at hown'
        have hb' := (hbel.alloc HS _).grown hgrow (by simp; omega) (fun b hb => (hown.lt b hb).1)
        go_wp2
        go_roundw
        case rel => exact ⟨k + 1, by omega, by go_num, hown', hb'⟩
        case measure => simp [intOf]; omega
      | true =>
        have HE : Hid (livTo l (k + 1) = livTo l k) := livTo_no l k hlt hg
        rw [hg] at c1
        clear hg
        go_wp2
        go_roundw
        case rel => exact ⟨k + 1, by omega, by go_num, by rw [HE.out]; exact hown, hbel⟩
        case measure => simp [intOf]; omega
    · have ek : k = l.length := by omega
      subst ek
      go_wp2
      go_ret
      refine ⟨_, rfl, ?_, hbel⟩
      have e : livingL l = livTo l l.length := by unfold livingL livTo; rw [List.take_length]
      rw [e]; exact hown

set_option maxHeartbeats 1000000 in
set_option maxRecDepth 100000 in
theorem gone_any (v : Value) (l : List Ent) (w : World) (hv : RdW w 5 v l.length (entVals l)) (hl : l.length ≤ 1073741824) :
    Calls Tryz.prog 146 #[v] w fun e w' => e = .returned (.int .i64 ((l.length - (livingL l).length : Nat) : Int)) ∧ Below w.heap.size w w' := by
  obtain ⟨a, cap, rfl, hc, hm, _, _⟩ := id hv
  have HV : Hid (RdW w 5 (.slice a l.length cap) l.length (entVals l)) := hv
  clear hv
  have hle : (livingL l).length ≤ l.length := List.length_filter_le _ _
  go_enter Tryz.func146, Tryz.ntmps146
  go_wp2_with fail
  refine (living_any _ l w HV.out hl).mono ?_
  rintro e w1 ⟨u, rfl, ho, hb⟩
  obtain ⟨a1, c1, rfl, hc1⟩ := owns_slice_wide ho
  go_wp2
  go_ret
  refine ⟨ret_int ?_, hb⟩
  omega

set_option maxHeartbeats 1000000 in
set_option maxRecDepth 100000 in
theorem over_any (vo vl : Value) (old later : List Ent) (w : World) (ho : RdW w 5 vo old.length (entVals old)) (hl : RdW w 5 vl later.length (entVals later)) (h1 : old.length ≤ 1073741824) (h2 : later.length ≤ 1073741824) :
    Calls Tryz.prog 145 #[vo, vl] w fun e w' => ∃ u, e = .returned u ∧ w'.ownsRow w.heap.size 202 5 u (overL old later).length (entVals (overL old later)) ∧ Below w.heap.size w w' := by
  obtain ⟨i5, hi5, hz0, hz1, hz2⟩ := info_parts Tryz.infoEnt
  obtain ⟨a, cap, rfl, hc, hm, _, _⟩ := id ho
  obtain ⟨al, capl, rfl, hcl, hml, _, _⟩ := id hl
  have HO : Hid (RdW w 5 (.slice a old.length cap) old.length (entVals old)) := ho
  have HL : Hid (RdW w 5 (.slice al later.length capl) later.length (entVals later)) := hl
  clear ho hl
  unfold maxLen at hm hml
  go_enter Tryz.func145, Tryz.ntmps145
  go_wp2
  go_loopw [5, 6] (fun v i wr => ∃ k : Nat, k ≤ old.length ∧ i = .int .i64 k ∧ wr.ownsRow w.heap.size 202 5 v (keptTo old later k).length (entVals (keptTo old later k)) ∧ Below w.heap.size w wr) (fun _ i _ => old.length - (intOf i).toNat)
  case atStart => exact ⟨0, Nat.zero_le _, rfl, World.ownsRow_nil _ _ _ _, Below.refl _ _⟩
  case round =>
    obtain ⟨k, hk, rfl, hown, hbel⟩ := hrel
    have HS := hbel.size
    have hll := keptTo_len old later k
    by_cases hlt : k < old.length
    · obtain ⟨b, off, rfl, c0, c1, c2, c3, c4⟩ := ent_cells (HO.out.below hbel) k hlt
      go_wp2_with fail
      refine (find_any _ later old[k].name wr (HL.out.below hbel)).mono ?_
      rintro e w' ⟨rfl, rfl⟩
      cases hg : findI later old[k].name with
      | none =>
        have hkb : keepsB later old[k] = true := by unfold keepsB; rw [hg]; rfl
        have HE : Hid (entVals (keptTo old later (k + 1)) = entVals (keptTo old later k) ++ entCells old[k]) := by show _ = _; rw [keptTo_yes old later k hlt hkb, entVals_snoc]
        have HN : Hid ((keptTo old later k).length + 1 = (keptTo old later (k + 1)).length) := by show _ = _; rw [keptTo_yes old later k hlt hkb]; simp
        rw [show findV none = -1 from rfl]
        clear hkb hg
        go_wp2_with (at_builtin; go_must (refine wpList_append_w _ rfl _ _ 75 rfl w.heap.size 202 i5 _ 5 56 Tryz.underlying75 hi5 hz0 hz1 hz2 rfl (by decide) _ _ _ rfl (hown.alloc _) _ 1 (entCells old[k]) rfl ?c0 ?c1 ?c2 ?c3 ?c4 ?_))
        case c0 => go_light; exact RdW.one_ent rfl
        case c1 => intro u hu; exact entVals_one (es := [old[k]]) u (by simpa [entVals] using hu)
        case c2 => omega
        case c3 => unfold maxLen; omega
        case c4 => simp; omega
        intro v' w1 hown' hgrow _
        rw [← HE.out, HN.out] at hown'
        have hb' := (hbel.alloc HS _).grown hgrow (by simp; omega) (fun b hb => (hown.lt b hb).1)
        go_wp2
        go_roundw
        case rel => exact ⟨k + 1, by omega, by go_num, hown', hb'⟩
        case measure => simp [intOf]; omega
      | some j =>
        have hkb : keepsB later old[k] = false := by unfold keepsB; rw [hg]; rfl
        have HE : Hid (keptTo old later (k + 1) = keptTo old later k) := keptTo_no old later k hlt hkb
        rw [show findV (some j) = (j : Int) from rfl]
        clear hkb hg
        go_wp2
        go_roundw
        case rel => exact ⟨k + 1, by omega, by go_num, by rw [HE.out]; exact hown, hbel⟩
        case measure => simp [intOf]; omega
    · have ek : k = old.length := by omega
      subst ek
      have HF : Hid (overL old later = keptTo old later old.length ++ later) := by show _ = _; unfold overL keptTo; rw [List.take_length]
      go_wp2_with (at_builtin; go_must (refine wpList_append_w _ rfl _ _ 75 rfl w.heap.size 202 i5 _ 5 56 Tryz.underlying75 hi5 hz0 hz1 hz2 rfl (by decide) _ _ _ rfl hown _ later.length (entVals later) rfl ?d0 entVals_one ?d2 ?d3 ?d4 ?_))
      case d0 => exact HL.out.below hbel
      case d2 => omega
      case d3 => unfold maxLen; omega
      case d4 => exact HS
      intro v' w1 hown' hgrow _
      have hb' := hbel.grown hgrow HS (fun b hb => (hown.lt b hb).1)
      go_wp2
      go_ret
      refine ⟨_, rfl, ?_, hb'⟩
      rw [HF.out, entVals_append, List.length_append]
      exact hown'

end Go.Proofs.YtocbogeoffeolaaGreatDoor

namespace Go.Proofs.YtocbogeoffeolaaGreatDoor
open Go.RowKit

def nameB (l : List UInt8) : Bool := l.all letterB && decide (0 < l.length) && decide (l.length ≤ 8)

/-- Entries that lie in memory, with their footprint. -/
def EntsO (w : World) (F : Nat → Prop) (v : Value) (es : List Ent) : Prop := w.ownsRow 0 202 5 v es.length (entVals es) ∧ ∀ k, v.ownBlock = some k → F k
def SegsO (w : World) (F : Nat → Prop) (v : Value) (ss : List (List Ent)) : Prop :=
  ∃ vs : List Value, vs.length = ss.length ∧ w.ownsRow 0 75 1 v ss.length vs ∧ (∀ k, v.ownBlock = some k → F k) ∧ ∀ i (h : i < ss.length), ∃ u, vs[i]? = some u ∧ EntsO w F u ss[i]

theorem EntsO.stay {w w' : World} {F G : Nat → Prop} {v : Value} {es : List Ent} (h : EntsO w F v es) (hb : ∀ k, F k → w'.heap[k]? = w.heap[k]?) (hG : ∀ k, F k → G k) : EntsO w' G v es :=
  ⟨owns_stay_wide h.1 (fun k hk => hb k (h.2 k hk)), fun k hk => hG k (h.2 k hk)⟩
theorem SegsO.stay {w w' : World} {F G : Nat → Prop} {v : Value} {ss : List (List Ent)} (h : SegsO w F v ss) (hb : ∀ k, F k → w'.heap[k]? = w.heap[k]?) (hG : ∀ k, F k → G k) : SegsO w' G v ss := by
  obtain ⟨vs, h1, h2, h3, h4⟩ := h
  refine ⟨vs, h1, owns_stay h2 (fun k hk => hb k (h3 k hk)), fun k hk => hG k (h3 k hk), fun i hi => ?_⟩
  obtain ⟨u, hu, ho⟩ := h4 i hi
  exact ⟨u, hu, ho.stay hb hG⟩

/-- How large entries are, all in all. -/
def bulkS (ss : List (List Ent)) : Nat := (ss.map fun s => s.length + 1).sum
def thereTo (ss : List (List Ent)) (k : Nat) : List Ent := (ss.take k).foldl overL []
def thereL (ss : List (List Ent)) (buf : List Ent) : List Ent := livingL (overL (thereTo ss ss.length) buf)

theorem overL_len (a b : List Ent) : (overL a b).length ≤ a.length + b.length := by
  unfold overL
  have := List.length_filter_le (keepsB b) a
  rw [List.length_append]; omega
theorem thereTo_succ (ss : List (List Ent)) (k : Nat) (h : k < ss.length) : thereTo ss (k + 1) = overL (thereTo ss k) ss[k] := by
  unfold thereTo
  rw [List.take_succ_eq_append_getElem h, List.foldl_append]; rfl
theorem bulkS_take (ss : List (List Ent)) (i : Nat) (h : i < ss.length) : bulkS (ss.take (i + 1)) = bulkS (ss.take i) + (ss[i].length + 1) := by
  unfold bulkS
  rw [List.take_succ_eq_append_getElem h, List.map_append, List.sum_append]; rfl
theorem bulkS_le (ss : List (List Ent)) (i : Nat) : bulkS (ss.take i) ≤ bulkS ss := by
  have : bulkS ss = bulkS (ss.take i) + bulkS (ss.drop i) := by
    unfold bulkS; rw [← List.sum_append, ← List.map_append, List.take_append_drop]
  omega
theorem bulkS_len (ss : List (List Ent)) : ss.length ≤ bulkS ss := by
  induction ss with
  | nil => simp
  | cons t ts ih => simp only [bulkS, List.map_cons, List.sum_cons, List.length_cons] at ih ⊢; omega
theorem thereTo_len (ss : List (List Ent)) (k : Nat) (hk : k ≤ ss.length) : (thereTo ss k).length ≤ bulkS (ss.take k) := by
  induction k with
  | zero => simp [thereTo]
  | succ k ih =>
    have h := ih (by omega)
    rw [thereTo_succ ss k (by omega), bulkS_take ss k (by omega)]
    have := overL_len (thereTo ss k) ss[k]
    omega

set_option maxHeartbeats 1000000 in
set_option maxRecDepth 100000 in
theorem there_any (F : Nat → Prop) (b : Nat) (vB vS vT : Value) (buf : List Ent) (ss : List (List Ent)) (w : World) (hh : w.heap[b]? = some (.cells #[vB, vS, vT] 120 (0, 0))) (hb : EntsO w F vB buf) (hs : SegsO w F vS ss)
    (h1 : bulkS ss ≤ 536870912) (h2 : buf.length ≤ 536870912) :
    Calls Tryz.prog 143 #[.pointer (some ⟨b, 0, none⟩)] w fun e w' => ∃ u, e = .returned u ∧ w'.ownsRow w.heap.size 202 5 u (thereL ss buf).length (entVals (thereL ss buf)) ∧ Below w.heap.size w w' := by
  have hc0 : w.cell? ⟨b, 0, none⟩ = some vB := by rw [cell_of_heap hh]; rfl
  have hc1 : w.cell? ⟨b, 1, none⟩ = some vS := by rw [cell_of_heap hh]; rfl
  obtain ⟨vs, hvl, hos, _, hel⟩ := hs
  obtain ⟨aS, cS, rfl, hcS⟩ := owns_slice hos
  have HEL : Hid (∀ i (h : i < ss.length), ∃ u, vs[i]? = some u ∧ EntsO w F u ss[i]) := hel
  have HOS : Hid (w.ownsRow 0 75 1 (.slice aS ss.length cS) ss.length vs) := hos
  have HBf : Hid (EntsO w F vB buf) := hb
  have HC0 : Hid (w.cell? ⟨b, 0, none⟩ = some vB) := hc0
  have HC1 : Hid (w.cell? ⟨b, 1, none⟩ = some (.slice aS ss.length cS)) := hc1
  have hssl := bulkS_len ss
  clear hel hos hb hc0 hc1 hvl hh
  go_enter Tryz.func143, Tryz.ntmps143
  go_wp2
  go_loopw [3, 4] (fun v i wr => ∃ k : Nat, k ≤ ss.length ∧ i = .int .i64 k ∧ wr.ownsRow w.heap.size 202 5 v (thereTo ss k).length (entVals (thereTo ss k)) ∧ Below w.heap.size w wr) (fun _ i _ => ss.length - (intOf i).toNat)
  case atStart => exact ⟨0, Nat.zero_le _, rfl, World.ownsRow_nil _ _ _ _, Below.refl _ _⟩
  case round =>
    obtain ⟨k, hk, rfl, hown, hbel⟩ := hrel
    have HS := hbel.size
    have hq1 := cell_later hbel HC1.out
    have hln := thereTo_len ss k hk
    have hb0 := bulkS_le ss k
    by_cases hlt : k < ss.length
    · obtain ⟨u, hu, hEu⟩ := HEL.out k hlt
      obtain ⟨bS, oS, rfl, hcell⟩ := owns_cell HOS.out k _ hu
      have hq2 := cell_later hbel hcell
      have HU : Hid (thereTo ss (k + 1) = overL (thereTo ss k) ss[k]) := thereTo_succ ss k hlt
      have hb1 := bulkS_take ss k hlt
      have hb2 := bulkS_le ss (k + 1)
      have hrd : RdW wr 5 u ss[k].length (entVals ss[k]) := (RdW.of_owns hEu.1).below hbel
      clear hu hcell hEu
      go_wp2_with fail
      refine (over_any _ _ (thereTo ss k) ss[k] wr (RdW.of_owns hown) hrd (by omega) (by omega)).mono ?_
      rintro e w1 ⟨u1, rfl, ho1, hb3⟩
      rw [← HU.out] at ho1
      have hb4 : Below w.heap.size w w1 := hbel.trans (hb3.mono HS)
      have ho2 := owns_mono ho1 HS
      clear ho1 hb3 hrd hq1 hq2 hb1 hb2
      go_wp2
      go_roundw
      case rel => exact ⟨k + 1, by omega, by go_num, ho2, hb4⟩
      case measure => simp [intOf]; omega
    · have ek : k = ss.length := by omega
      subst ek
      have hq0 := cell_later hbel HC0.out
      have hrb : RdW wr 5 vB buf.length (entVals buf) := (RdW.of_owns HBf.out.1).below hbel
      go_wp2_with fail
      refine (over_any _ _ (thereTo ss ss.length) buf wr (RdW.of_owns hown) hrb (by omega) (by omega)).mono ?_
      rintro e w1 ⟨u1, rfl, ho1, hb3⟩
      have hol := overL_len (thereTo ss ss.length) buf
      go_wp2_with fail
      refine (living_any u1 (overL (thereTo ss ss.length) buf) w1 (RdW.of_owns ho1) (by omega)).mono ?_
      rintro e w2 ⟨u2, rfl, ho2, hb5⟩
      have hz1 := hb3.size
      have hb6 : Below w.heap.size w w2 := (hbel.trans (hb3.mono HS)).trans (hb5.mono (by omega))
      have ho3 : w2.ownsRow w.heap.size 202 5 u2 (thereL ss buf).length (entVals (thereL ss buf)) := owns_mono ho2 (by omega)
      clear ho2 hb5 hb3 ho1
      go_wp2
      go_ret
      exact ⟨_, rfl, ho3, hb6⟩

set_option maxHeartbeats 400000 in
theorem isName_any (s : ByteArray) (w : World) (hs : s.size ≤ maxLen) :
    Calls Tryz.prog 141 #[.string s] w fun e w' => e = .returned (.bool (nameB s.data.toList)) ∧ w = w' := by
  unfold maxLen at hs
  go_enter Tryz.func141, Tryz.ntmps141
  go_wp2
  go_loop [3] (fun i => ∃ k : Nat, k ≤ s.size ∧ i = .int .i64 k ∧ (s.data.toList.take k).all letterB = true) (fun i => s.size - (intOf i).toNat)
  case atStart => exact ⟨0, Nat.zero_le _, rfl, rfl⟩
  case round =>
    obtain ⟨k, hk, rfl, hall⟩ := hrel
    have HA : Hid ((s.data.toList.take k).all letterB = true) := hall
    clear hall
    by_cases hlt : k < s.size
    · have HS : Hid (s.data.toList.take (k + 1) = s.data.toList.take k ++ [s[k]]) := take_snoc s k hlt
      go_wp2_with fail
      refine (letter_any _ _).mono ?_
      rintro e w' ⟨rfl, rfl⟩
      cases hp : letterB s[k] with
      | true =>
        have HP : Hid (letterB s[k] = true) := hp
        clear hp
        go_wp2
        go_round
        case rel => exact ⟨k + 1, by omega, by go_num, by rw [HS.out, List.all_append, HA.out]; simp [HP.out]⟩
        case measure => simp [intOf]; omega
      | false =>
        have HP : Hid (letterB s[k] = false) := hp
        clear hp
        go_wp2
        go_ret
        refine ⟨ret_bool ?_, rfl⟩
        symm
        rw [Bool.eq_false_iff]
        intro hq
        simp only [nameB, Bool.and_eq_true] at hq
        have := List.all_eq_true.1 hq.1.1 _ (mem_get s k hlt)
        rw [HP.out] at this
        simp at this
    · have e : s.data.toList.take k = s.data.toList := List.take_of_length_le (by simp; omega)
      have HA2 := HA.out
      rw [e] at HA2
      have HF : Hid (nameB s.data.toList = (decide (0 < s.size) && decide (s.size ≤ 8))) := by
        show nameB s.data.toList = _
        unfold nameB
        rw [HA2]
        simp
      clear HA2 e
      by_cases h0 : 0 < s.size
      · go_wp2
        go_ret
        refine ⟨ret_bool ?_, rfl⟩
        rw [HF.out]
        simp [h0]
        omega
      · go_wp2
        go_ret
        refine ⟨ret_bool ?_, rfl⟩
        rw [HF.out]
        simp [h0]

end Go.Proofs.YtocbogeoffeolaaGreatDoor

namespace Go.Proofs.YtocbogeoffeolaaGreatDoor
open Go.RowKit

theorem bytes_eta (s : ByteArray) : s = ⟨s.data.toList.toArray⟩ := by apply ByteArray.ext; simp

/-- The document's engine: buffer, segments, texts. -/
def RefE (w : World) (F : Nat → Prop) (b : Nat) (buf : List Ent) (ss : List (List Ent)) (ts : List (List Wd)) : Prop :=
  ∃ vB vS vT, w.heap[b]? = some (.cells #[vB, vS, vT] 120 (0, 0)) ∧ F b ∧ EntsO w F vB buf ∧ SegsO w F vS ss ∧ TextsO w F vT ts

theorem RefE.stay {w w' : World} {F : Nat → Prop} {b : Nat} {buf : List Ent} {ss : List (List Ent)} {ts : List (List Wd)} (h : RefE w F b buf ss ts) (hb : ∀ k, F k → w'.heap[k]? = w.heap[k]?) : RefE w' F b buf ss ts := by
  obtain ⟨vB, vS, vT, h1, h2, h3, h4, h5⟩ := h
  exact ⟨vB, vS, vT, by rw [hb b h2]; exact h1, h2, h3.stay hb (fun _ hk => hk), h4.stay hb (fun _ hk => hk), h5.stay hb (fun _ hk => hk)⟩

/-- The buffer is written anew: w1: a world in which the new entries lie in new memory. -/
theorem ref_buffer {w w1 : World} {F : Nat → Prop} {b : Nat} {vB vS vT u : Value} {buf' : List Ent} {ss : List (List Ent)} {ts : List (List Wd)} (hF : ∀ k, F k → k < w.heap.size)
    (hh : w.heap[b]? = some (.cells #[vB, vS, vT] 120 (0, 0))) (hFb : F b) (hs : SegsO w F vS ss) (hT : TextsO w F vT ts) (hb : Below w.heap.size w w1)
    (ho : w1.ownsRow w.heap.size 202 5 u buf'.length (entVals buf')) :
    RefE (w1.setCell ⟨b, 0, none⟩ u) (Grow F w (w1.setCell ⟨b, 0, none⟩ u)) b buf' ss ts ∧ FrameF F w (w1.setCell ⟨b, 0, none⟩ u) := by
  have hz := hb.size
  have hbz := hF b hFb
  have hsz : (w1.setCell ⟨b, 0, none⟩ u).heap.size = w1.heap.size := by simp [World.setCell]
  have hh1 : w1.heap[b]? = some (.cells #[vB, vS, vT] 120 (0, 0)) := by rw [hb.block b hbz]; exact hh
  have hfar : ∀ k, k ≠ b → (w1.setCell ⟨b, 0, none⟩ u).heap[k]? = w1.heap[k]? := fun k hk => Below.heap_setCell _ _ _ _ hk
  have hold : ∀ k, F k → k ≠ b → (w1.setCell ⟨b, 0, none⟩ u).heap[k]? = w.heap[k]? := fun k hk hne => by rw [hfar k hne, hb.block k (hF k hk)]
  refine ⟨⟨u, vS, vT, ?_, Or.inl hFb, ⟨?_, ?_⟩, ?_, ?_⟩, ?_⟩
  · rw [heap_set hh1]; rfl
  · refine owns_stay_wide (owns_mono ho (Nat.zero_le _)) (fun k hk => hfar k (fun e => ?_))
    have := (ho.lt k hk).1; omega
  · intro k hk
    have := ho.lt k hk
    exact Or.inr ⟨this.1, by rw [hsz]; exact this.2⟩
  · obtain ⟨vs, h1, h2, h3, h4⟩ := hs
    refine ⟨vs, h1, owns_stay h2 (fun k hk => hold k (h3 k hk) (fun e => by subst e; exact blk_ne hh h2 (by decide) hk)), fun k hk => Or.inl (h3 k hk), fun i hi => ?_⟩
    obtain ⟨v, hv, hE⟩ := h4 i hi
    exact ⟨v, hv, owns_stay_wide hE.1 (fun k hk => hold k (hE.2 k hk) (fun e => by subst e; exact blk_ne_wide hh hE.1 (by decide) hk)), fun k hk => Or.inl (hE.2 k hk)⟩
  · obtain ⟨vs, h1, h2, h3, h4⟩ := hT
    refine ⟨vs, h1, owns_stay h2 (fun k hk => hold k (h3 k hk) (fun e => by subst e; exact blk_ne hh h2 (by decide) hk)), fun k hk => Or.inl (h3 k hk), fun i hi => ?_⟩
    obtain ⟨v, hv, hE, hf⟩ := h4 i hi
    exact ⟨v, hv, owns_stay hE (fun k hk => hold k (hf k hk) (fun e => by subst e; exact blk_ne hh hE (by decide) hk)), fun k hk => Or.inl (hf k hk)⟩
  · refine ⟨hb.os, hb.tape, hb.output, by rw [hsz]; exact hz, fun k hk hn => ?_⟩
    rw [hfar k (fun e => hn (by rw [e]; exact hFb)), hb.block k hk]

/-- Upsert: its answer, and the buffer behind it. -/
def upsL (buf : List Ent) (ss : List (List Ent)) (name text : Wd) (weight tags : Int) : Nat × List Ent :=
  if nameB name = true then
    if queryB text = true ∧ text ≠ [] then
      if weight < 0 ∨ 1000000 < weight ∨ tags < 0 ∨ 255 < tags then (3, buf)
      else if 30 ≤ (thereL ss buf).length ∧ findI (thereL ss buf) name = none then (4, buf)
      else (0, overL buf [⟨name, false, text, weight, tags⟩])
    else (2, buf)
  else (1, buf)

theorem Grow.refl_of {w : World} {F : Nat → Prop} {b : Nat} {buf : List Ent} {ss : List (List Ent)} {ts : List (List Wd)} (h : RefE w F b buf ss ts) : RefE w (Grow F w w) b buf ss ts := by
  obtain ⟨vB, vS, vT, h1, h2, h3, h4, h5⟩ := h
  exact ⟨vB, vS, vT, h1, Or.inl h2, h3.stay (fun _ _ => rfl) (fun _ hk => Or.inl hk), h4.stay (fun _ _ => rfl) (fun _ hk => Or.inl hk), h5.stay (fun _ _ => rfl) (fun _ hk => Or.inl hk)⟩
theorem ref_below {w w' : World} {F : Nat → Prop} {b : Nat} {buf : List Ent} {ss : List (List Ent)} {ts : List (List Wd)} (h : RefE w F b buf ss ts) (hF : ∀ k, F k → k < w.heap.size) (hb : Below w.heap.size w w') : RefE w' (Grow F w w') b buf ss ts := by
  obtain ⟨vB, vS, vT, h1, h2, h3, h4, h5⟩ := h
  have hk : ∀ k, F k → w'.heap[k]? = w.heap[k]? := fun k hk => hb.block k (hF k hk)
  exact ⟨vB, vS, vT, by rw [hk b h2]; exact h1, Or.inl h2, h3.stay hk (fun _ hk => Or.inl hk), h4.stay hk (fun _ hk => Or.inl hk), h5.stay hk (fun _ hk => Or.inl hk)⟩

set_option maxHeartbeats 1000000 in
set_option maxRecDepth 100000 in
theorem refUpsert (F : Nat → Prop) (b : Nat) (buf : List Ent) (ss : List (List Ent)) (ts : List (List Wd)) (name text : ByteArray) (weight tags : Int) (w : World) (hF : ∀ k, F k → k < w.heap.size) (hR : RefE w F b buf ss ts) (hn : name.size ≤ maxLen) (ht : text.size ≤ maxLen)
    (h1 : bulkS ss ≤ 536870912) (h2 : buf.length ≤ 536870912) :
    Calls Tryz.prog 103 #[.pointer (some ⟨b, 0, none⟩), .string name, .string text, .int .i64 weight, .int .i64 tags] w fun e w' => e = .returned (.int .i64 (upsL buf ss name.data.toList text.data.toList weight tags).1) ∧
      RefE w' (Grow F w w') b (upsL buf ss name.data.toList text.data.toList weight tags).2 ss ts ∧ FrameF F w w' := by
  have HR : Hid (RefE w F b buf ss ts) := hR
  clear hR
  by_cases hnm : nameB name.data.toList = true
  · by_cases htx : queryB text.data.toList = true ∧ text.data.toList ≠ []
    · obtain ⟨htq, htn⟩ := htx
      have hnil : text.toList.isEmpty = false := by
        rw [ByteArray.toList_eq]
        cases h : text.data.toList with
        | nil => exact absurd h htn
        | cons a l => rfl
      by_cases hbad : weight < 0 ∨ 1000000 < weight ∨ tags < 0 ∨ 255 < tags
      · have HU : Hid (upsL buf ss name.data.toList text.data.toList weight tags = (3, buf)) := by show upsL _ _ _ _ _ _ = _; unfold upsL; rw [if_pos hnm, if_pos ⟨htq, htn⟩, if_pos hbad]
        have hc4 : weight < 0 ∨ (0 ≤ weight ∧ 1000000 < weight) ∨ (0 ≤ weight ∧ weight ≤ 1000000 ∧ tags < 0) ∨ (0 ≤ weight ∧ weight ≤ 1000000 ∧ 0 ≤ tags ∧ 255 < tags) := by omega
        clear hbad
        rcases hc4 with c1 | ⟨c1, c2⟩ | ⟨c1, c2, c3⟩ | ⟨c1, c2, c3, c4⟩
        all_goals
          go_enter Tryz.func103, Tryz.ntmps103
          go_wp2_with fail
          refine (isName_any name _ hn).mono ?_
          rintro e w' ⟨rfl, rfl⟩
          rw [hnm]
          go_wp2_with fail
          refine (isQuery_any text _ ht).mono ?_
          rintro e w' ⟨rfl, rfl⟩
          rw [htq]
          go_wp2
          go_ret
          refine ⟨ret_int (by rw [HU.out]; rfl), ?_, FrameF.refl _ _⟩
          rw [HU.out]
          exact Grow.refl_of HR.out
      · have hw0 : 0 ≤ weight := by omega
        have hw1 : weight ≤ 1000000 := by omega
        have ht0 : 0 ≤ tags := by omega
        have ht1 : tags ≤ 255 := by omega
        obtain ⟨vB, vS, vT, hh, hFb, hEB, hSS, hTT⟩ := id HR.out
        have hbz := hF b hFb
        have HU : Hid (upsL buf ss name.data.toList text.data.toList weight tags = if 30 ≤ (thereL ss buf).length ∧ findI (thereL ss buf) name.data.toList = none then (4, buf) else (0, overL buf [⟨name.data.toList, false, text.data.toList, weight, tags⟩])) := by
          show upsL _ _ _ _ _ _ = _; unfold upsL; rw [if_pos hnm, if_pos ⟨htq, htn⟩, if_neg hbad]
        clear hbad htn
        go_enter Tryz.func103, Tryz.ntmps103
        go_wp2_with fail
        refine (isName_any name _ hn).mono ?_
        rintro e w' ⟨rfl, rfl⟩
        rw [hnm]
        go_wp2_with fail
        refine (isQuery_any text _ ht).mono ?_
        rintro e w' ⟨rfl, rfl⟩
        rw [htq]
        have HH : Hid (w.heap[b]? = some (.cells #[vB, vS, vT] 120 (0, 0))) := hh
        have HEB : Hid (EntsO w F vB buf) := hEB
        have HSS : Hid (SegsO w F vS ss) := hSS
        have HTT : Hid (TextsO w F vT ts) := hTT
        clear hh hEB hSS hTT hnm htq
        go_wp2_with fail
        refine (there_any F b vB vS vT buf ss w HH.out HEB.out HSS.out h1 h2).mono ?_
        rintro e w1 ⟨u, rfl, hou, hb1⟩
        obtain ⟨au, cu, rfl, hcu⟩ := owns_slice_wide hou
        have hz1 := hb1.size
        have hc0 : w1.cell? ⟨b, 0, none⟩ = some vB := cell_later hb1 (by rw [cell_of_heap HH.out]; rfl)
        have hrB : RdW w1 5 vB buf.length (entVals buf) := (RdW.of_owns HEB.out.1).below hb1
        by_cases h30 : 30 ≤ (thereL ss buf).length
        · go_wp2_with fail
          have hfa := find_any (.slice au (thereL ss buf).length cu) (thereL ss buf) name.data.toList w1 (RdW.of_owns hou)
          rw [← bytes_eta name] at hfa
          refine hfa.mono ?_
          clear hfa
          rintro e w' ⟨rfl, rfl⟩
          cases hfi : findI (thereL ss buf) name.data.toList with
          | none =>
            have HU2 : Hid (upsL buf ss name.data.toList text.data.toList weight tags = (4, buf)) := by show upsL _ _ _ _ _ _ = _; rw [HU.out, if_pos ⟨h30, hfi⟩]
            rw [show findV none = -1 from rfl]
            clear hfi
            go_wp2
            go_ret
            refine ⟨ret_int (by rw [HU2.out]; rfl), ?_, FrameF.of_below hb1⟩
            rw [HU2.out]
            exact ref_below HR.out hF hb1
          | some j =>
            have HU2 : Hid (upsL buf ss name.data.toList text.data.toList weight tags = (0, overL buf [⟨name.data.toList, false, text.data.toList, weight, tags⟩])) := by show upsL _ _ _ _ _ _ = _; rw [HU.out, if_neg (fun h => by rw [hfi] at h; simp at h)]
            rw [show findV (some j) = (j : Int) from rfl]
            clear hfi
            have hone : RdW (w1.alloc (.cells #[.string name, .bool false, .string text, .int .i64 weight, .int .i64 tags] 202)) 5 (.slice (some ⟨w1.heap.size, 0, none⟩) 1 1) 1 (entVals [⟨name.data.toList, false, text.data.toList, weight, tags⟩]) := by
              have := RdW.one_ent (w := w1) (b := w1.heap.size) (e := ⟨name.data.toList, false, text.data.toList, weight, tags⟩) (t := 202) rfl
              simp only [← bytes_eta] at this
              simpa [entVals] using this
            have hb2 : Below w.heap.size w (w1.alloc (.cells #[.string name, .bool false, .string text, .int .i64 weight, .int .i64 tags] 202)) := hb1.alloc hz1 _
            have hrB2 := hrB.below ((Below.refl _ _).alloc (Nat.le_refl _) (.cells #[.string name, .bool false, .string text, .int .i64 weight, .int .i64 tags] 202))
            have hbw : b < w1.heap.size := by omega
            go_wp2_with fail
            refine (over_any _ _ buf [⟨name.data.toList, false, text.data.toList, weight, tags⟩] _ hrB2 hone (by omega) (by simp)).mono ?_
            rintro e w3 ⟨u3, rfl, ho3, hb3⟩
            obtain ⟨a3, c3, rfl, hc3⟩ := owns_slice_wide ho3
            have hz2 := hb2.size
            have hb4 : Below w.heap.size w w3 := hb2.trans (hb3.mono hz2)
            have hps := ref_buffer hF HH.out hFb HSS.out HTT.out hb4 (owns_mono ho3 hz2)
            have hc30 : w3.cell? ⟨b, 0, none⟩ = some vB := cell_later hb4 (by rw [cell_of_heap HH.out]; rfl)
            have hf30 : w3.frozen? ⟨b, 0, none⟩ = false := by rw [hb4.frozen (p := ⟨b, 0, none⟩) hbz]; exact frozen_of_heap HH.out 0
            have HPS : Hid (RefE (w3.setCell ⟨b, 0, none⟩ (.slice a3 (overL buf [⟨name.data.toList, false, text.data.toList, weight, tags⟩]).length c3)) (Grow F w (w3.setCell ⟨b, 0, none⟩ (.slice a3 (overL buf [⟨name.data.toList, false, text.data.toList, weight, tags⟩]).length c3))) b (overL buf [⟨name.data.toList, false, text.data.toList, weight, tags⟩]) ss ts ∧ FrameF F w (w3.setCell ⟨b, 0, none⟩ (.slice a3 (overL buf [⟨name.data.toList, false, text.data.toList, weight, tags⟩]).length c3))) := hps
            clear hps ho3 hb3 hb4 hone hrB2 hb2
            generalize overL buf [⟨name.data.toList, false, text.data.toList, weight, tags⟩] = nb at *
            go_wp2
            go_ret
            refine ⟨ret_int (by rw [HU2.out]; rfl), ?_⟩
            rw [HU2.out]
            exact HPS.out
        · have HU2 : Hid (upsL buf ss name.data.toList text.data.toList weight tags = (0, overL buf [⟨name.data.toList, false, text.data.toList, weight, tags⟩])) := by show upsL _ _ _ _ _ _ = _; rw [HU.out, if_neg (fun h => h30 h.1)]
          have hone : RdW (w1.alloc (.cells #[.string name, .bool false, .string text, .int .i64 weight, .int .i64 tags] 202)) 5 (.slice (some ⟨w1.heap.size, 0, none⟩) 1 1) 1 (entVals [⟨name.data.toList, false, text.data.toList, weight, tags⟩]) := by
            have := RdW.one_ent (w := w1) (b := w1.heap.size) (e := ⟨name.data.toList, false, text.data.toList, weight, tags⟩) (t := 202) rfl
            simp only [← bytes_eta] at this
            simpa [entVals] using this
          have hb2 : Below w.heap.size w (w1.alloc (.cells #[.string name, .bool false, .string text, .int .i64 weight, .int .i64 tags] 202)) := hb1.alloc hz1 _
          have hrB2 := hrB.below ((Below.refl _ _).alloc (Nat.le_refl _) (.cells #[.string name, .bool false, .string text, .int .i64 weight, .int .i64 tags] 202))
          have hbw : b < w1.heap.size := by omega
          go_wp2_with fail
          refine (over_any _ _ buf [⟨name.data.toList, false, text.data.toList, weight, tags⟩] _ hrB2 hone (by omega) (by simp)).mono ?_
          rintro e w3 ⟨u3, rfl, ho3, hb3⟩
          obtain ⟨a3, c3, rfl, hc3⟩ := owns_slice_wide ho3
          have hz2 := hb2.size
          have hb4 : Below w.heap.size w w3 := hb2.trans (hb3.mono hz2)
          have hps := ref_buffer hF HH.out hFb HSS.out HTT.out hb4 (owns_mono ho3 hz2)
          have hc30 : w3.cell? ⟨b, 0, none⟩ = some vB := cell_later hb4 (by rw [cell_of_heap HH.out]; rfl)
          have hf30 : w3.frozen? ⟨b, 0, none⟩ = false := by rw [hb4.frozen (p := ⟨b, 0, none⟩) hbz]; exact frozen_of_heap HH.out 0
          have HPS : Hid (RefE (w3.setCell ⟨b, 0, none⟩ (.slice a3 (overL buf [⟨name.data.toList, false, text.data.toList, weight, tags⟩]).length c3)) (Grow F w (w3.setCell ⟨b, 0, none⟩ (.slice a3 (overL buf [⟨name.data.toList, false, text.data.toList, weight, tags⟩]).length c3))) b (overL buf [⟨name.data.toList, false, text.data.toList, weight, tags⟩]) ss ts ∧ FrameF F w (w3.setCell ⟨b, 0, none⟩ (.slice a3 (overL buf [⟨name.data.toList, false, text.data.toList, weight, tags⟩]).length c3))) := hps
          clear hps ho3 hb3 hb4 hone hrB2 hb2
          generalize overL buf [⟨name.data.toList, false, text.data.toList, weight, tags⟩] = nb at *
          go_wp2
          go_ret
          refine ⟨ret_int (by rw [HU2.out]; rfl), ?_⟩
          rw [HU2.out]
          exact HPS.out
    · have HU : Hid (upsL buf ss name.data.toList text.data.toList weight tags = (2, buf)) := by show upsL _ _ _ _ _ _ = _; unfold upsL; rw [if_pos hnm, if_neg htx]
      by_cases htq : queryB text.data.toList = true
      · have h0 : text.data.toList = [] := by
          by_cases h0 : text.data.toList = []
          · exact h0
          · exact absurd ⟨htq, h0⟩ htx
        have hnil : text.toList.isEmpty = true := by rw [ByteArray.toList_eq, h0]; rfl
        clear h0 htx
        go_enter Tryz.func103, Tryz.ntmps103
        go_wp2_with fail
        refine (isName_any name _ hn).mono ?_
        rintro e w' ⟨rfl, rfl⟩
        rw [hnm]
        go_wp2_with fail
        refine (isQuery_any text _ ht).mono ?_
        rintro e w' ⟨rfl, rfl⟩
        rw [htq]
        go_wp2
        go_ret
        refine ⟨ret_int (by rw [HU.out]; rfl), ?_, FrameF.refl _ _⟩
        rw [HU.out]
        exact Grow.refl_of HR.out
      · have htq' : queryB text.data.toList = false := by simpa using htq
        clear htq htx
        go_enter Tryz.func103, Tryz.ntmps103
        go_wp2_with fail
        refine (isName_any name _ hn).mono ?_
        rintro e w' ⟨rfl, rfl⟩
        rw [hnm]
        go_wp2_with fail
        refine (isQuery_any text _ ht).mono ?_
        rintro e w' ⟨rfl, rfl⟩
        rw [htq']
        go_wp2
        go_ret
        refine ⟨ret_int (by rw [HU.out]; rfl), ?_, FrameF.refl _ _⟩
        rw [HU.out]
        exact Grow.refl_of HR.out
  · have HU : Hid (upsL buf ss name.data.toList text.data.toList weight tags = (1, buf)) := by show upsL _ _ _ _ _ _ = _; unfold upsL; rw [if_neg hnm]
    have hnm' : nameB name.data.toList = false := by simpa using hnm
    clear hnm
    go_enter Tryz.func103, Tryz.ntmps103
    go_wp2_with fail
    refine (isName_any name _ hn).mono ?_
    rintro e w' ⟨rfl, rfl⟩
    rw [hnm']
    go_wp2
    go_ret
    refine ⟨ret_int (by rw [HU.out]; rfl), ?_, FrameF.refl _ _⟩
    rw [HU.out]
    exact Grow.refl_of HR.out

end Go.Proofs.YtocbogeoffeolaaGreatDoor

namespace Go.Proofs.YtocbogeoffeolaaGreatDoor
open Go.RowKit

/-- Delete: its answer, and the buffer behind it. -/
def delL (buf : List Ent) (ss : List (List Ent)) (name : Wd) : Nat × List Ent :=
  if nameB name = true then
    if findI (thereL ss buf) name = none then (5, buf)
    else if 100 ≤ buf.length - (livingL buf).length then (4, buf)
    else (0, overL buf [⟨name, true, [], 0, 0⟩])
  else (1, buf)

set_option maxHeartbeats 1000000 in
set_option maxRecDepth 100000 in
theorem refDelete (F : Nat → Prop) (b : Nat) (buf : List Ent) (ss : List (List Ent)) (ts : List (List Wd)) (name : ByteArray) (w : World) (hF : ∀ k, F k → k < w.heap.size) (hR : RefE w F b buf ss ts) (hn : name.size ≤ maxLen)
    (h1 : bulkS ss ≤ 536870912) (h2 : buf.length ≤ 536870912) :
    Calls Tryz.prog 105 #[.pointer (some ⟨b, 0, none⟩), .string name] w fun e w' => e = .returned (.int .i64 (delL buf ss name.data.toList).1) ∧
      RefE w' (Grow F w w') b (delL buf ss name.data.toList).2 ss ts ∧ FrameF F w w' := by
  have HR : Hid (RefE w F b buf ss ts) := hR
  clear hR
  by_cases hnm : nameB name.data.toList = true
  · obtain ⟨vB, vS, vT, hh, hFb, hEB, hSS, hTT⟩ := id HR.out
    have hbz := hF b hFb
    have HU : Hid (delL buf ss name.data.toList = if findI (thereL ss buf) name.data.toList = none then (5, buf) else if 100 ≤ buf.length - (livingL buf).length then (4, buf) else (0, overL buf [⟨name.data.toList, true, [], 0, 0⟩])) := by
      show delL _ _ _ = _; unfold delL; rw [if_pos hnm]
    go_enter Tryz.func105, Tryz.ntmps105
    go_wp2_with fail
    refine (isName_any name _ hn).mono ?_
    rintro e w' ⟨rfl, rfl⟩
    rw [hnm]
    have HH : Hid (w.heap[b]? = some (.cells #[vB, vS, vT] 120 (0, 0))) := hh
    have HEB : Hid (EntsO w F vB buf) := hEB
    have HSS : Hid (SegsO w F vS ss) := hSS
    have HTT : Hid (TextsO w F vT ts) := hTT
    clear hh hEB hSS hTT hnm
    go_wp2_with fail
    refine (there_any F b vB vS vT buf ss w HH.out HEB.out HSS.out h1 h2).mono ?_
    rintro e w1 ⟨u, rfl, hou, hb1⟩
    have hz1 := hb1.size
    have hc0 : w1.cell? ⟨b, 0, none⟩ = some vB := cell_later hb1 (by rw [cell_of_heap HH.out]; rfl)
    have hrB : RdW w1 5 vB buf.length (entVals buf) := (RdW.of_owns HEB.out.1).below hb1
    go_wp2_with fail
    have hfa := find_any u (thereL ss buf) name.data.toList w1 (RdW.of_owns hou)
    rw [← bytes_eta name] at hfa
    refine hfa.mono ?_
    clear hfa
    rintro e w' ⟨rfl, rfl⟩
    cases hfi : findI (thereL ss buf) name.data.toList with
    | none =>
      have HU2 : Hid (delL buf ss name.data.toList = (5, buf)) := by show delL _ _ _ = _; rw [HU.out, if_pos hfi]
      rw [show findV none = -1 from rfl]
      clear hfi
      go_wp2
      go_ret
      refine ⟨ret_int (by rw [HU2.out]; rfl), ?_, FrameF.of_below hb1⟩
      rw [HU2.out]
      exact ref_below HR.out hF hb1
    | some j =>
      have HU3 : Hid (delL buf ss name.data.toList = if 100 ≤ buf.length - (livingL buf).length then (4, buf) else (0, overL buf [⟨name.data.toList, true, [], 0, 0⟩])) := by show delL _ _ _ = _; rw [HU.out, if_neg (fun h => by rw [hfi] at h; simp at h)]
      rw [show findV (some j) = (j : Int) from rfl]
      clear hfi hou
      go_wp2_with fail
      refine (gone_any vB buf w1 hrB (by omega)).mono ?_
      rintro e w2 ⟨rfl, hb2⟩
      have hz2 := hb2.size
      have hb12 : Below w.heap.size w w2 := hb1.trans (hb2.mono hz1)
      have hc02 := cell_later hb2 hc0
      have hrB1 := hrB.below hb2
      clear hc0 hrB hb1 hb2
      by_cases h100 : 100 ≤ buf.length - (livingL buf).length
      · have HU2 : Hid (delL buf ss name.data.toList = (4, buf)) := by show delL _ _ _ = _; rw [HU3.out, if_pos h100]
        go_wp2
        go_ret
        refine ⟨ret_int (by rw [HU2.out]; rfl), ?_, FrameF.of_below hb12⟩
        rw [HU2.out]
        exact ref_below HR.out hF hb12
      · have HU2 : Hid (delL buf ss name.data.toList = (0, overL buf [⟨name.data.toList, true, [], 0, 0⟩])) := by show delL _ _ _ = _; rw [HU3.out, if_neg h100]
        have hz12 := hb12.size
        have hone : RdW (w2.alloc (.cells #[.string name, .bool true, .string ⟨#[]⟩, .int .i64 0, .int .i64 0] 202)) 5 (.slice (some ⟨w2.heap.size, 0, none⟩) 1 1) 1 (entVals [⟨name.data.toList, true, [], 0, 0⟩]) := by
          have := RdW.one_ent (w := w2) (b := w2.heap.size) (e := ⟨name.data.toList, true, [], 0, 0⟩) (t := 202) rfl
          simp only [← bytes_eta] at this
          simpa [entVals] using this
        have hb3 : Below w.heap.size w (w2.alloc (.cells #[.string name, .bool true, .string ⟨#[]⟩, .int .i64 0, .int .i64 0] 202)) := hb12.alloc hz12 _
        have hrB2 := hrB1.below ((Below.refl _ _).alloc (Nat.le_refl _) (.cells #[.string name, .bool true, .string ⟨#[]⟩, .int .i64 0, .int .i64 0] 202))
        have hbw : b < w2.heap.size := by omega
        go_wp2_with fail
        refine (over_any _ _ buf [⟨name.data.toList, true, [], 0, 0⟩] _ hrB2 hone (by omega) (by simp)).mono ?_
        rintro e w3 ⟨u3, rfl, ho3, hb4⟩
        obtain ⟨a3, c3, rfl, hc3⟩ := owns_slice_wide ho3
        have hz3 := hb3.size
        have hb5 : Below w.heap.size w w3 := hb3.trans (hb4.mono hz3)
        have hps := ref_buffer hF HH.out hFb HSS.out HTT.out hb5 (owns_mono ho3 hz3)
        have hc30 : w3.cell? ⟨b, 0, none⟩ = some vB := cell_later hb5 (by rw [cell_of_heap HH.out]; rfl)
        have hf30 : w3.frozen? ⟨b, 0, none⟩ = false := by rw [hb5.frozen (p := ⟨b, 0, none⟩) hbz]; exact frozen_of_heap HH.out 0
        have HPS : Hid (RefE (w3.setCell ⟨b, 0, none⟩ (.slice a3 (overL buf [⟨name.data.toList, true, [], 0, 0⟩]).length c3)) (Grow F w (w3.setCell ⟨b, 0, none⟩ (.slice a3 (overL buf [⟨name.data.toList, true, [], 0, 0⟩]).length c3))) b (overL buf [⟨name.data.toList, true, [], 0, 0⟩]) ss ts ∧ FrameF F w (w3.setCell ⟨b, 0, none⟩ (.slice a3 (overL buf [⟨name.data.toList, true, [], 0, 0⟩]).length c3))) := hps
        clear hps ho3 hb4 hb5 hone hrB2 hb3
        generalize overL buf [⟨name.data.toList, true, [], 0, 0⟩] = nb at *
        go_wp2
        go_ret
        refine ⟨ret_int (by rw [HU2.out]; rfl), ?_⟩
        rw [HU2.out]
        exact HPS.out
  · have HU : Hid (delL buf ss name.data.toList = (1, buf)) := by show delL _ _ _ = _; unfold delL; rw [if_neg hnm]
    have hnm' : nameB name.data.toList = false := by simpa using hnm
    clear hnm
    go_enter Tryz.func105, Tryz.ntmps105
    go_wp2_with fail
    refine (isName_any name _ hn).mono ?_
    rintro e w' ⟨rfl, rfl⟩
    rw [hnm']
    go_wp2
    go_ret
    refine ⟨ret_int (by rw [HU.out]; rfl), ?_, FrameF.refl _ _⟩
    rw [HU.out]
    exact Grow.refl_of HR.out

end Go.Proofs.YtocbogeoffeolaaGreatDoor

namespace Go.Proofs.YtocbogeoffeolaaGreatDoor
open Go.RowKit

/-- What Flush makes a segment of. -/
def flushed (buf : List Ent) (ss : List (List Ent)) : List Ent := if ss.length = 0 then livingL buf else buf
/-- Flush: its answer; buffer and segments behind it. -/
def flushL (buf : List Ent) (ss : List (List Ent)) : Nat × List Ent × List (List Ent) :=
  if buf.length = 0 then (5, buf, ss) else if 6 ≤ ss.length then (4, buf, ss)
  else (0, [], if 0 < (flushed buf ss).length then ss ++ [flushed buf ss] else ss)

/-- The buffer is emptied: b's first field is written. -/
theorem ref_empty {w : World} {F : Nat → Prop} {b : Nat} {buf : List Ent} {ss : List (List Ent)} {ts : List (List Wd)} (h : RefE w F b buf ss ts) : RefE (w.setCell ⟨b, 0, none⟩ (.slice none 0 0)) F b [] ss ts := by
  obtain ⟨vB, vS, vT, hh, hFb, _, hs, hT⟩ := h
  have hfar : ∀ k, k ≠ b → (w.setCell ⟨b, 0, none⟩ (.slice none 0 0)).heap[k]? = w.heap[k]? := fun k hk => Below.heap_setCell _ _ _ _ hk
  refine ⟨.slice none 0 0, vS, vT, by rw [heap_set hh]; rfl, hFb, ⟨World.ownsRow_nil _ _ _ _, fun k hk => by simp [Value.ownBlock] at hk⟩, ?_, ?_⟩
  · obtain ⟨vs, h1, h2, h3, h4⟩ := hs
    refine ⟨vs, h1, owns_stay h2 (fun k hk => hfar k (fun e => by subst e; exact blk_ne hh h2 (by decide) hk)), h3, fun i hi => ?_⟩
    obtain ⟨v, hv, hE⟩ := h4 i hi
    exact ⟨v, hv, owns_stay_wide hE.1 (fun k hk => hfar k (fun e => by subst e; exact blk_ne_wide hh hE.1 (by decide) hk)), hE.2⟩
  · obtain ⟨vs, h1, h2, h3, h4⟩ := hT
    refine ⟨vs, h1, owns_stay h2 (fun k hk => hfar k (fun e => by subst e; exact blk_ne hh h2 (by decide) hk)), h3, fun i hi => ?_⟩
    obtain ⟨v, hv, hE, hf⟩ := h4 i hi
    exact ⟨v, hv, owns_stay hE (fun k hk => hfar k (fun e => by subst e; exact blk_ne hh hE (by decide) hk)), hf⟩

/-- A segment more: w1: a world in which it lies; w2: behind the append. -/
theorem ref_segment {w w1 w2 : World} {F : Nat → Prop} {b N : Nat} {vB vS vS' vT u : Value} {buf l : List Ent} {ss : List (List Ent)} {ts : List (List Wd)} {vs : List Value} {o : Obj} (hF : ∀ k, F k → k < w.heap.size)
    (hh : w.heap[b]? = some (.cells #[vB, vS, vT] 120 (0, 0))) (hFb : F b) (hEB : EntsO w F vB buf) (hvl : vs.length = ss.length) (hos : w.ownsRow 0 75 1 vS ss.length vs) (hFS : ∀ k, vS.ownBlock = some k → F k)
    (hel : ∀ i (h : i < ss.length), ∃ u, vs[i]? = some u ∧ EntsO w F u ss[i]) (hT : TextsO w F vT ts) (hb1 : Below w.heap.size w w1)
    (hu : w1.ownsRow 0 202 5 u l.length (entVals l)) (hub : ∀ k, u.ownBlock = some k → F k ∨ w.heap.size ≤ k)
    (ho : w2.ownsRow 0 75 1 vS' (ss.length + 1) (vs ++ [u])) (hg : (w1.alloc o).grownBy w2 vS.ownBlock) (hk : vS'.ownBlock = vS.ownBlock ∨ vS'.ownBlock = some N) (hN : N = w1.heap.size + 1) :
    w2.heap[b]? = some (.cells #[vB, vS, vT] 120 (0, 0)) ∧ RefE (w2.setCell ⟨b, 1, none⟩ vS') (Grow F w (w2.setCell ⟨b, 1, none⟩ vS')) b buf (ss ++ [l]) ts ∧ FrameF F w (w2.setCell ⟨b, 1, none⟩ vS') := by
  have hz1 := hb1.size
  have hz2 : w1.heap.size + 1 ≤ w2.heap.size := by have := hg.size; simpa using this
  have hbz := hF b hFb
  have hsz : (w2.setCell ⟨b, 1, none⟩ vS').heap.size = w2.heap.size := by simp [World.setCell]
  have hbS : vS.ownBlock ≠ some b := blk_ne hh hos (by decide)
  have hold : ∀ k, k < w.heap.size → vS.ownBlock ≠ some k → w2.heap[k]? = w.heap[k]? := fun k hk hne => by
    rw [hg.block k (by simp; omega) (fun e => hne e.symm), Below.heap_alloc _ _ _ (by omega), hb1.block k hk]
  have hmid : ∀ k, k < w1.heap.size → vS.ownBlock ≠ some k → w2.heap[k]? = w1.heap[k]? := fun k hk hne => by
    rw [hg.block k (by simp; omega) (fun e => hne e.symm), Below.heap_alloc _ _ _ hk]
  have hh2 : w2.heap[b]? = some (.cells #[vB, vS, vT] 120 (0, 0)) := by rw [hold b hbz hbS]; exact hh
  have hfar : ∀ k, k ≠ b → (w2.setCell ⟨b, 1, none⟩ vS').heap[k]? = w2.heap[k]? := fun k hk => Below.heap_setCell _ _ _ _ hk
  have hall : ∀ k, F k → vS.ownBlock ≠ some k → k ≠ b → (w2.setCell ⟨b, 1, none⟩ vS').heap[k]? = w.heap[k]? := fun k hk h1 h2 => by rw [hfar k h2, hold k (hF k hk) h1]
  have hent : ∀ (v : Value) (es : List Ent), EntsO w F v es → EntsO (w2.setCell ⟨b, 1, none⟩ vS') (Grow F w (w2.setCell ⟨b, 1, none⟩ vS')) v es := fun v es hE =>
    ⟨owns_stay_wide hE.1 (fun k hk => hall k (hE.2 k hk) (fun e => owns_ne_wide hE.1 hos (by decide) k hk e) (fun e => by subst e; exact blk_ne_wide hh hE.1 (by decide) hk)), fun k hk => Or.inl (hE.2 k hk)⟩
  refine ⟨hh2, ⟨vB, vS', vT, ?_, Or.inl hFb, hent _ _ hEB, ⟨vs ++ [u], by simp [hvl], ?_, ?_, ?_⟩, ?_⟩, ?_⟩
  · rw [heap_set hh2]; rfl
  · have e : (ss ++ [l]).length = ss.length + 1 := by simp
    rw [e]
    refine owns_stay ho (fun k hk' => hfar k (fun e => ?_))
    subst e
    exact blk_ne hh2 ho (by decide) hk'
  · intro k hk'
    rcases hk with h1 | h1
    · exact Or.inl (hFS k (by rw [← h1]; exact hk'))
    · rw [h1] at hk'
      simp only [Option.some.injEq] at hk'
      have := (ho.lt k (by rw [h1, hk'])).2
      exact Or.inr ⟨by omega, by rw [hsz]; exact this⟩
  · intro i hi
    by_cases hlt : i < ss.length
    · obtain ⟨v, hv, hE⟩ := hel i hlt
      refine ⟨v, by rw [List.getElem?_append_left (by omega)]; exact hv, ?_⟩
      rw [List.getElem_append_left hlt]
      exact hent v _ hE
    · have hi' : i = ss.length := by simp at hi; omega
      subst hi'
      refine ⟨u, by rw [← hvl]; simp, ?_⟩
      have e : (ss ++ [l])[ss.length] = l := by simp
      rw [e]
      have hul : ∀ k, u.ownBlock = some k → k < w1.heap.size := fun k hk' => (hu.lt k hk').2
      have hne : ∀ k, u.ownBlock = some k → vS.ownBlock ≠ some k := fun k hk' e => by
        have hos1 : w1.ownsRow 0 75 1 vS ss.length vs := owns_below hos hb1
        exact owns_ne_wide hu hos1 (by decide) k hk' e
      have hh1 : w1.heap[b]? = some (.cells #[vB, vS, vT] 120 (0, 0)) := by rw [hb1.block b hbz]; exact hh
      refine ⟨owns_stay_wide hu (fun k hk' => ?_), fun k hk' => ?_⟩
      · rw [hfar k (fun e => by subst e; exact blk_ne_wide hh1 hu (by decide) hk'), hmid k (hul k hk') (hne k hk')]
      · rcases hub k hk' with h1 | h1
        · exact Or.inl h1
        · exact Or.inr ⟨h1, by rw [hsz]; have := hul k hk'; omega⟩
  · obtain ⟨vs', h1, h2, h3, h4⟩ := hT
    refine ⟨vs', h1, owns_stay h2 (fun k hk' => hall k (h3 k hk') (fun e => owns_ne_wide h2 hos (by decide) k hk' e) (fun e => by subst e; exact blk_ne hh h2 (by decide) hk')), fun k hk' => Or.inl (h3 k hk'), fun i hi => ?_⟩
    obtain ⟨v, hv, hE, hf⟩ := h4 i hi
    exact ⟨v, hv, owns_stay hE (fun k hk' => hall k (hf k hk') (fun e => owns_ne_wide hE hos (by decide) k hk' e) (fun e => by subst e; exact blk_ne hh hE (by decide) hk')), fun k hk' => Or.inl (hf k hk')⟩
  · refine ⟨hg.os.trans hb1.os, hg.tape.trans hb1.tape, hg.output.trans hb1.output, by rw [hsz]; omega, fun k hk' hn => ?_⟩
    rw [hfar k (fun e => hn (by rw [e]; exact hFb)), hold k hk' (fun e => hn (hFS k e))]

theorem Tryz.infoLe : (Tryz.prog.info? 75).map (fun i => (i.zero, i.size, i.bytes)) = some (some (.slice none 0 0), 1, 24) := by kernel_rfl

end Go.Proofs.YtocbogeoffeolaaGreatDoor

namespace Go.Proofs.YtocbogeoffeolaaGreatDoor
open Go.RowKit

theorem RefE.mono {w : World} {F G : Nat → Prop} {b : Nat} {buf : List Ent} {ss : List (List Ent)} {ts : List (List Wd)} (h : RefE w F b buf ss ts) (hG : ∀ k, F k → G k) : RefE w G b buf ss ts := by
  obtain ⟨vB, vS, vT, h1, h2, h3, h4, h5⟩ := h
  exact ⟨vB, vS, vT, h1, hG b h2, h3.stay (fun _ _ => rfl) hG, h4.stay (fun _ _ => rfl) hG, h5.stay (fun _ _ => rfl) hG⟩

theorem flush_end {w X : World} {F : Nat → Prop} {b : Nat} {buf : List Ent} {ss : List (List Ent)} {ts : List (List Wd)} (hFb : F b) (h : RefE X (Grow F w X) b buf ss ts) (hf : FrameF F w X) :
    RefE (X.setCell ⟨b, 0, none⟩ (.slice none 0 0)) (Grow F w (X.setCell ⟨b, 0, none⟩ (.slice none 0 0))) b [] ss ts ∧ FrameF F w (X.setCell ⟨b, 0, none⟩ (.slice none 0 0)) := by
  have hsz : (X.setCell ⟨b, 0, none⟩ (.slice none 0 0)).heap.size = X.heap.size := by simp [World.setCell]
  refine ⟨(ref_empty h).mono (fun k hk => ?_), ?_⟩
  · rcases hk with hk | hk
    · exact Or.inl hk
    · exact Or.inr ⟨hk.1, by rw [hsz]; exact hk.2⟩
  · refine ⟨hf.os, hf.tape, hf.output, by rw [hsz]; exact hf.size, fun k hk hn => ?_⟩
    rw [Below.heap_setCell _ _ _ _ (fun e => hn (by have e' : k = b := e; rw [e']; exact hFb))]
    exact hf.block k hk hn

set_option maxHeartbeats 2000000 in
set_option maxRecDepth 100000 in
theorem refFlush (F : Nat → Prop) (b : Nat) (buf : List Ent) (ss : List (List Ent)) (ts : List (List Wd)) (w : World) (hF : ∀ k, F k → k < w.heap.size) (hR : RefE w F b buf ss ts) (h2 : buf.length ≤ 536870912) :
    Calls Tryz.prog 106 #[.pointer (some ⟨b, 0, none⟩)] w fun e w' => e = .returned (.int .i64 (flushL buf ss).1) ∧ RefE w' (Grow F w w') b (flushL buf ss).2.1 (flushL buf ss).2.2 ts ∧ FrameF F w w' := by
  obtain ⟨i8, hi8, hy0, hy1, hy2⟩ := info_parts Tryz.infoLe
  obtain ⟨vB, vS, vT, hh, hFb, hEB, hSS, hTT⟩ := id hR
  have HR : Hid (RefE w F b buf ss ts) := hR
  obtain ⟨vs, hvl, hos, hFS, hel⟩ := hSS
  obtain ⟨aB, cB, rfl, hcB⟩ := owns_slice_wide hEB.1
  obtain ⟨aS, cS, rfl, hcS⟩ := owns_slice hos
  have hc0 : w.cell? ⟨b, 0, none⟩ = some (.slice aB buf.length cB) := by rw [cell_of_heap hh]; rfl
  have hc1 : w.cell? ⟨b, 1, none⟩ = some (.slice aS ss.length cS) := by rw [cell_of_heap hh]; rfl
  have hf0 : w.frozen? ⟨b, 0, none⟩ = false := frozen_of_heap hh 0
  have hbz := hF b hFb
  have HH : Hid (w.heap[b]? = some (.cells #[.slice aB buf.length cB, .slice aS ss.length cS, vT] 120 (0, 0))) := hh
  have HEB : Hid (EntsO w F (.slice aB buf.length cB) buf) := hEB
  have HOS : Hid (w.ownsRow 0 75 1 (.slice aS ss.length cS) ss.length vs) := hos
  have HEL : Hid (∀ i (h : i < ss.length), ∃ u, vs[i]? = some u ∧ EntsO w F u ss[i]) := hel
  have HFS : Hid (∀ k, (Value.slice aS ss.length cS).ownBlock = some k → F k) := hFS
  have HTT : Hid (TextsO w F vT ts) := hTT
  have HVL : Hid (vs.length = ss.length) := hvl
  clear hh hEB hos hel hFS hTT hvl hR
  by_cases hb0 : buf.length = 0
  · have HU : Hid (flushL buf ss = (5, buf, ss)) := by show flushL _ _ = _; unfold flushL; rw [if_pos hb0]
    have hz : ((buf.length : Int) == 0) = true := beq_iff_eq.2 (by omega)
    go_enter Tryz.func106, Tryz.ntmps106
    go_wp2
    go_ret
    refine ⟨ret_int (by rw [HU.out]; rfl), ?_, FrameF.refl _ _⟩
    rw [HU.out]
    exact Grow.refl_of HR.out
  · have hz : ((buf.length : Int) == 0) = false := beq_eq_false_iff_ne.2 (by omega)
    by_cases h6 : 6 ≤ ss.length
    · have HU : Hid (flushL buf ss = (4, buf, ss)) := by show flushL _ _ = _; unfold flushL; rw [if_neg hb0, if_pos h6]
      go_enter Tryz.func106, Tryz.ntmps106
      go_wp2
      go_ret
      refine ⟨ret_int (by rw [HU.out]; rfl), ?_, FrameF.refl _ _⟩
      rw [HU.out]
      exact Grow.refl_of HR.out
    · have HU : Hid (flushL buf ss = (0, [], if 0 < (flushed buf ss).length then ss ++ [flushed buf ss] else ss)) := by show flushL _ _ = _; unfold flushL; rw [if_neg hb0, if_neg h6]
      by_cases hs0 : ss.length = 0
      · have hzs : ((ss.length : Int) == 0) = true := beq_iff_eq.2 (by omega)
        have HFl : Hid (flushed buf ss = livingL buf) := by show flushed _ _ = _; unfold flushed; rw [if_pos hs0]
        clear hs0
        go_enter Tryz.func106, Tryz.ntmps106
        go_wp2_with fail
        refine (living_any _ buf w (RdW.of_owns HEB.out.1) (by omega)).mono ?_
        rintro e w1 ⟨u, rfl, hou, hb1⟩
        obtain ⟨au, cu, rfl, hcu⟩ := owns_slice_wide hou
        have hz1 := hb1.size
        have hc01 := cell_later hb1 hc0
        have hc11 := cell_later hb1 hc1
        have hf01 : w1.frozen? ⟨b, 0, none⟩ = false := by rw [hb1.frozen (p := ⟨b, 0, none⟩) hbz]; exact hf0
        have hlv : (livingL buf).length ≤ buf.length := List.length_filter_le _ _
        by_cases hl0 : 0 < (livingL buf).length
        · have HU2 : Hid (flushL buf ss = (0, [], ss ++ [livingL buf])) := by show flushL _ _ = _; rw [HU.out, HFl.out, if_pos hl0]
          go_wp2_with (at_builtin; go_must (refine wpList_append_full _ rfl _ _ 118 rfl 0 75 i8 (.slice none 0 0) 24 Tryz.underlying118 hi8 hy0 hy1 hy2 rfl _ _ _ rfl ((owns_below HOS.out hb1).alloc _) _ [.slice au (livingL buf).length cu] rfl ?k0 ?k9 ?k1 ?k2 ?k3 ?_))
          case k0 => go_light; exact Rd.one (cell_new' rfl)
          case k9 => intro u hu; simp at hu; subst hu; rfl
          case k1 => simp; omega
          case k2 => simp [maxLen]; omega
          case k3 => exact Nat.zero_le _
          intro vS1 w2 ho2 hg2 hk2
          obtain ⟨aS2, cS2, rfl, hcS2⟩ := owns_slice ho2
          have hsg := ref_segment (l := livingL buf) hF HH.out hFb HEB.out HVL.out HOS.out HFS.out HEL.out HTT.out hb1 (owns_mono hou (Nat.zero_le _)) (fun k hk => Or.inr (hou.lt k hk).1) ho2 hg2 hk2 rfl
          have hc21 : w2.cell? ⟨b, 1, none⟩ = some (.slice aS ss.length cS) := by rw [cell_of_heap hsg.1]; rfl
          have hf21 : w2.frozen? ⟨b, 1, none⟩ = false := frozen_of_heap hsg.1 1
          have hc20 : w2.cell? ⟨b, 0, none⟩ = some (.slice aB buf.length cB) := by rw [cell_of_heap hsg.1]; rfl
          have hf20 : w2.frozen? ⟨b, 0, none⟩ = false := frozen_of_heap hsg.1 0
          have hend := flush_end hFb hsg.2.1 hsg.2.2
          have HEnd : Hid (RefE ((w2.setCell ⟨b, 1, none⟩ (.slice aS2 (ss.length + 1) cS2)).setCell ⟨b, 0, none⟩ (.slice none 0 0)) (Grow F w ((w2.setCell ⟨b, 1, none⟩ (.slice aS2 (ss.length + 1) cS2)).setCell ⟨b, 0, none⟩ (.slice none 0 0))) b [] (ss ++ [livingL buf]) ts ∧ FrameF F w ((w2.setCell ⟨b, 1, none⟩ (.slice aS2 (ss.length + 1) cS2)).setCell ⟨b, 0, none⟩ (.slice none 0 0))) := hend
          clear hend hsg ho2 hg2 hk2
          go_wp2
          go_ret
          refine ⟨ret_int (by rw [HU2.out]; rfl), ?_⟩
          rw [HU2.out]
          exact HEnd.out
        · have HU2 : Hid (flushL buf ss = (0, [], ss)) := by show flushL _ _ = _; rw [HU.out, HFl.out, if_neg hl0]
          have hend := flush_end hFb (ref_below HR.out hF hb1) (FrameF.of_below hb1)
          have HEnd : Hid (RefE (w1.setCell ⟨b, 0, none⟩ (.slice none 0 0)) (Grow F w (w1.setCell ⟨b, 0, none⟩ (.slice none 0 0))) b [] ss ts ∧ FrameF F w (w1.setCell ⟨b, 0, none⟩ (.slice none 0 0))) := hend
          clear hend
          go_wp2
          go_ret
          refine ⟨ret_int (by rw [HU2.out]; rfl), ?_⟩
          rw [HU2.out]
          exact HEnd.out
      · have hzs : ((ss.length : Int) == 0) = false := beq_eq_false_iff_ne.2 (by omega)
        have HFl : Hid (flushed buf ss = buf) := by show flushed _ _ = _; unfold flushed; rw [if_neg hs0]
        have HU2 : Hid (flushL buf ss = (0, [], ss ++ [buf])) := by show flushL _ _ = _; rw [HU.out, HFl.out, if_pos (by omega)]
        go_enter Tryz.func106, Tryz.ntmps106
        go_wp2_with (at_builtin; go_must (refine wpList_append_full _ rfl _ _ 118 rfl 0 75 i8 (.slice none 0 0) 24 Tryz.underlying118 hi8 hy0 hy1 hy2 rfl _ _ _ rfl (HOS.out.alloc _) _ [.slice aB buf.length cB] rfl ?m0 ?m9 ?m1 ?m2 ?m3 ?_))
        case m0 => go_light; exact Rd.one (cell_new' rfl)
        case m9 => intro u hu; simp at hu; subst hu; rfl
        case m1 => simp; omega
        case m2 => simp [maxLen]; omega
        case m3 => exact Nat.zero_le _
        intro vS1 w2 ho2 hg2 hk2
        obtain ⟨aS2, cS2, rfl, hcS2⟩ := owns_slice ho2
        have hsg := ref_segment (l := buf) hF HH.out hFb HEB.out HVL.out HOS.out HFS.out HEL.out HTT.out (Below.refl _ _) HEB.out.1 (fun k hk => Or.inl (HEB.out.2 k hk)) ho2 hg2 hk2 rfl
        have hc21 : w2.cell? ⟨b, 1, none⟩ = some (.slice aS ss.length cS) := by rw [cell_of_heap hsg.1]; rfl
        have hf21 : w2.frozen? ⟨b, 1, none⟩ = false := frozen_of_heap hsg.1 1
        have hc20 : w2.cell? ⟨b, 0, none⟩ = some (.slice aB buf.length cB) := by rw [cell_of_heap hsg.1]; rfl
        have hf20 : w2.frozen? ⟨b, 0, none⟩ = false := frozen_of_heap hsg.1 0
        have hend := flush_end hFb hsg.2.1 hsg.2.2
        have HEnd : Hid (RefE ((w2.setCell ⟨b, 1, none⟩ (.slice aS2 (ss.length + 1) cS2)).setCell ⟨b, 0, none⟩ (.slice none 0 0)) (Grow F w ((w2.setCell ⟨b, 1, none⟩ (.slice aS2 (ss.length + 1) cS2)).setCell ⟨b, 0, none⟩ (.slice none 0 0))) b [] (ss ++ [buf]) ts ∧ FrameF F w ((w2.setCell ⟨b, 1, none⟩ (.slice aS2 (ss.length + 1) cS2)).setCell ⟨b, 0, none⟩ (.slice none 0 0))) := hend
        clear hend hsg ho2 hg2 hk2
        go_wp2
        go_ret
        refine ⟨ret_int (by rw [HU2.out]; rfl), ?_⟩
        rw [HU2.out]
        exact HEnd.out

end Go.Proofs.YtocbogeoffeolaaGreatDoor

