/-
  Parts laid into a row of cells.
  The document's own stores (hourglassref10: Store) in memory: a list of versions of twenty cells each.
  Versions that are loaded, stored and answered whole.
  Writes (a key, a value, whether it is gone) and items (a key, a value) in memory: loaded and stored whole, lists of them.
-/
import Derived.Test.YtileidbdmpeciaaGreatAu83
import Derived.Test.YtileidbdmpeciaaGreatAu69
import Derived.Test.YtileidbdmpeciaaGreatAu75
import Derived.Test.YtileidbdmpeciaaGreatAu71
import Derived.Deep.MidRow
import Derived.Test.YtileidbdmpeciaaGreatAu60
namespace Go.Proofs.YtileidbdmpeciaaGreat
open Go.RowKit
set_option linter.unusedVariables false

theorem fold_off : ∀ (vs : List Value) (off o : Nat) (C : Array Value), List.foldl (fun (cs : Array Value) (x : Value × Nat) => cs.setIfInBounds (off + x.snd) x.fst) C (vs.zipIdx o) = List.foldl (fun (cs : Array Value) (x : Value × Nat) => cs.setIfInBounds x.snd x.fst) C (vs.zipIdx (off + o))
  | [], off, o, C => rfl
  | v :: r, off, o, C => by
    rw [List.zipIdx_cons, List.zipIdx_cons, List.foldl_cons, List.foldl_cons, fold_off r off (o + 1)]
    rfl
theorem fill_step (place : Nat → Option (Nat × Nat)) (C : List Value) (i off n : Nat) (vs : List Value) (hp : place i = some (off, n)) (hv : vs.length = n) (hs : off + n ≤ C.length) (rest : List (Nat × Value)) :
    Instr.fill place C.toArray ((i, .agg vs.toArray) :: rest) = Instr.fill place (C.take off ++ vs ++ C.drop (off + n)).toArray rest := by
  have h0 : ¬ (decide (vs.toArray.size ≠ n) || decide (off + vs.toArray.size > C.toArray.size)) = true := by simp; omega
  have hf : Array.foldl (fun (cs : Array Value) (x : Value × Nat) => cs.setIfInBounds (off + x.snd) x.fst) C.toArray vs.toArray.zipIdx = (C.take off ++ vs ++ C.drop (off + n)).toArray := by
    rw [← Array.foldl_toList]
    apply Array.toList_inj.1
    have e : vs.toArray.zipIdx.toList = vs.zipIdx := by simp
    rw [e, fold_off vs off 0, Nat.add_zero, fold_set vs off C.toArray (by simp; omega)]
    simp [hv]
  rw [← hf]
  conv => lhs; unfold Instr.fill
  simp only [hp, Value.cells]
  exact if_neg h0
end Go.Proofs.YtileidbdmpeciaaGreat

namespace Go.Proofs.YtileidbdmpeciaaGreat
open Go.RowKit
set_option linter.unusedVariables false

/-- A version's cells. -/
def encV (V : Ver) : List Value := kc V.k ++ [.int .i64 V.t, .int .u8 V.n, .string (strOfNums V.v), .bool V.g]
def OkL (L : List Ver) : Prop := ∀ V ∈ L, VerOk V
theorem enc_len {V : Ver} (h : Ky V.k) : (encV V).length = 20 := by unfold encV; rw [List.length_append, kc_len h]; rfl
theorem OkL.len {L : List Ver} (h : OkL L) : ∀ V ∈ L, (encV V).length = 20 := fun V hV => enc_len (h V hV).key
/-- One version at a place. -/
structure VerAt (w : World) (b o : Nat) (V : Ver) : Prop where
  lies : Lies w (some ⟨b, o, none⟩) (encV V)
theorem VerAt.key {w : World} {b o : Nat} {V : Ver} (h : VerAt w b o V) (hk : Ky V.k) : KeyAt w b o V.k := by
  refine ⟨fun j hj => h.lies.at j _ ?_⟩
  have hl := hk.len
  unfold encV
  rw [List.getElem?_append_left (by rw [kc_len hk]; exact hj)]
  simp [kc, List.getD, show j < V.k.length by omega]
theorem VerAt.cells {w : World} {b o : Nat} {V : Ver} (h : VerAt w b o V) (hk : Ky V.k) : w.cell? ⟨b, o + 16, none⟩ = some (.int .i64 V.t) ∧ w.cell? ⟨b, o + 17, none⟩ = some (.int .u8 V.n) ∧ w.cell? ⟨b, o + 18, none⟩ = some (.string (strOfNums V.v)) ∧ w.cell? ⟨b, o + 19, none⟩ = some (.bool V.g) := by
  have hl := kc_len hk
  refine ⟨h.lies.at 16 _ ?_, h.lies.at 17 _ ?_, h.lies.at 18 _ ?_, h.lies.at 19 _ ?_⟩ <;> (unfold encV; rw [List.getElem?_append_right (by omega), hl]; rfl)
theorem VerAt.past {w w' : World} {b o : Nat} {V : Ver} (h : VerAt w b o V) (hb : Below w.heap.size w w') : VerAt w' b o V := ⟨h.lies.past hb⟩
/-- A store in block p, all of it made by the call (at B or above). -/
structure StoreR (u : World) (B p : Nat) (L : List Ver) : Prop where
  lt : p < u.heap.size
  lo : B ≤ p
  list : ∃ a c, u.cell? ⟨p, 0, none⟩ = some (.slice a L.length c) ∧ u.ownsRow B 127 20 (.slice a L.length c) L.length (L.flatMap encV) ∧ (∀ k, (Value.slice a L.length c).ownBlock = some k → k ≠ p)
  free : u.frozen? ⟨p, 0, none⟩ = false
  oks : OkL L
  few : L.length ≤ 1000000
theorem StoreR.past {u u' : World} {B p : Nat} {L : List Ver} (h : StoreR u B p L) (hb : Below u.heap.size u u') : StoreR u' B p L := by
  obtain ⟨a, c, h1, h2, h3⟩ := h.list
  exact ⟨Nat.lt_of_lt_of_le h.lt hb.size, h.lo, ⟨a, c, (hb.cell (p := ⟨p, 0, none⟩) h.lt).trans h1, own_below h2 hb (Nat.le_refl _), h3⟩, (hb.frozen (p := ⟨p, 0, none⟩) h.lt).trans (h.free), h.oks, h.few⟩
/-- The list's cell, and each version of it. -/
theorem StoreR.open {u : World} {B p : Nat} {L : List Ver} (h : StoreR u B p L) : ∃ a c, L.length ≤ c ∧ (∀ v, Below u.heap.size u v → v.cell? ⟨p, 0, none⟩ = some (.slice a L.length c)) ∧ (L = [] ∨ ∃ g, a = some ⟨g, 0, none⟩ ∧ g < u.heap.size ∧ B ≤ g ∧ ∀ v, Below u.heap.size u v → ∀ i V, L[i]? = some V → VerAt v g (i * 20) V) := by
  obtain ⟨a, c, h1, h2, h3⟩ := h.list
  refine ⟨a, c, ?_, fun v hb => (hb.cell (p := ⟨p, 0, none⟩) h.lt).trans h1, ?_⟩
  · rcases h2.2 with ⟨e1, e2⟩ | ⟨g, cap, cur, e1, _, _, e5, _⟩
    · omega
    · cases e1; exact e5
  · rcases h2.2 with ⟨e1, e2⟩ | ⟨g, cap, cur, e1, hg, hh, e5, _⟩
    · exact .inl (List.eq_nil_of_length_eq_zero e2)
    · cases e1
      have hlt := (Array.getElem?_eq_some_iff.1 hh).1
      refine .inr ⟨g, rfl, hlt, hg, fun v hb i V hV => ⟨?_⟩⟩
      have hl : Lies u (some ⟨g, 0, none⟩) (L.flatMap encV) := own_lies h2
      have := (hl.el h.oks.len hV).past hb
      rwa [Nat.zero_add] at this
end Go.Proofs.YtileidbdmpeciaaGreat

namespace Go.Proofs.YtileidbdmpeciaaGreat
open Go.RowKit
set_option linter.unusedVariables false

/-- One version in memory of the call's own. -/
structure VerMine (w : World) (b o : Nat) (V : Ver) : Prop where
  at_ : VerAt w b o V
  free : ∀ i, i < 20 → w.frozen? ⟨b, o + i, none⟩ = false
  key : Ky V.k
theorem VerAt.lt {w : World} {b o : Nat} {V : Ver} (h : VerAt w b o V) (hk : Ky V.k) : b < w.heap.size := cell_lt (h.cells hk).1
theorem VerMine.made (w : World) (T : TypeId) (V : Ver) (hk : Ky V.k) : VerMine (w.alloc (.cells (encV V).toArray T)) w.heap.size 0 V :=
  ⟨⟨lies_made w (encV V).toArray T⟩, fun i hi => World.frozen?_alloc_new _ _ _ _, hk⟩
theorem VerMine.past {w w' : World} {b o : Nat} {V : Ver} (h : VerMine w b o V) (hb : Below w.heap.size w w') : VerMine w' b o V :=
  ⟨h.at_.past hb, fun i hi => by rw [hb.frozen (p := ⟨b, o + i, none⟩) (h.at_.lt h.key)]; exact h.free i hi, h.key⟩
theorem VerAt.range {w : World} {b o : Nat} {V : Ver} (h : VerAt w b o V) : w.rangeAt b o (encV V) := h.lies.range
theorem VerMine.there {w : World} {b o : Nat} {V : Ver} (h : VerMine w b o V) : w.there b o 20 := fun j hj => by
  have hl := enc_len h.key
  obtain ⟨u, hu⟩ : ∃ u, (encV V)[j]? = some u := ⟨_, List.getElem?_eq_getElem (by omega)⟩
  exact ⟨by rw [h.at_.lies.at j u hu]; rfl, h.free j hj⟩
theorem VerMine.store {w : World} {b o : Nat} {V V' : Ver} (h : VerMine w b o V) (hk : Ky V'.k) : VerMine (w.setCells b o (encV V')) b o V' := by
  have ht := h.there
  rw [← enc_len hk] at ht
  exact ⟨⟨lies_of (World.rangeAt_setCells_same w b o (encV V') ht)⟩, fun i hi => by rw [World.frozen?_setCells]; exact h.free i hi, hk⟩
def zeroV : Ver := ⟨zeroK, 0, 0, [], false⟩
theorem zeroV_ky : Ky zeroV.k := zeroK_ky
end Go.Proofs.YtileidbdmpeciaaGreat

namespace Go.Proofs.YtileidbdmpeciaaGreat
open Go.RowKit
set_option linter.unusedVariables false

/-- A write's cells. -/
def encW (W : Wrt) : List Value := kc W.k ++ [.string (strOfNums W.v), .bool W.g]
abbrev wv (W : Wrt) : Value := .agg (encW W).toArray
structure WrtOk (W : Wrt) : Prop where
  key : Ky W.k
  val : ∀ z ∈ W.v, 0 ≤ z ∧ z ≤ 255
  few : W.v.length ≤ maxLen
theorem encW_len {W : Wrt} (h : Ky W.k) : (encW W).length = 18 := by unfold encW; rw [List.length_append, kc_len h]; rfl
theorem encW_one (W : Wrt) : ∀ u ∈ encW W, u.oneCell' = true := by
  intro u hu
  unfold encW at hu
  rcases List.mem_append.1 hu with e | e
  · exact ints_oneCell _ _ u e
  · simp at e
    rcases e with rfl | rfl <;> rfl
theorem encW_all (W : Wrt) : (encW W).toArray.all (·.oneCell') = true := all_oneCell_toArray (encW_one W)
structure WrtAt (w : World) (b o : Nat) (W : Wrt) : Prop where
  lies : Lies w (some ⟨b, o, none⟩) (encW W)
theorem WrtAt.key {w : World} {b o : Nat} {W : Wrt} (h : WrtAt w b o W) (hk : Ky W.k) : KeyAt w b o W.k := by
  refine ⟨fun j hj => h.lies.at j _ ?_⟩
  have hl := hk.len
  unfold encW
  rw [List.getElem?_append_left (by rw [kc_len hk]; exact hj)]
  simp [kc, List.getD, show j < W.k.length by omega]
theorem WrtAt.cells {w : World} {b o : Nat} {W : Wrt} (h : WrtAt w b o W) (hk : Ky W.k) : w.cell? ⟨b, o + 16, none⟩ = some (.string (strOfNums W.v)) ∧ w.cell? ⟨b, o + 17, none⟩ = some (.bool W.g) := by
  have hl := kc_len hk
  refine ⟨h.lies.at 16 _ ?_, h.lies.at 17 _ ?_⟩ <;> (unfold encW; rw [List.getElem?_append_right (by omega), hl]; rfl)
theorem WrtAt.past {w w' : World} {b o : Nat} {W : Wrt} (h : WrtAt w b o W) (hb : Below w.heap.size w w') : WrtAt w' b o W := ⟨h.lies.past hb⟩
theorem WrtAt.lt {w : World} {b o : Nat} {W : Wrt} (h : WrtAt w b o W) (hk : Ky W.k) : b < w.heap.size := cell_lt (h.cells hk).1
theorem info_wrt : (Tryz.prog.info? 80).map (·.size) = some 18 := by kernel_rfl
/-- One write in memory of the call's own. -/
structure WrtMine (w : World) (b o : Nat) (W : Wrt) : Prop where
  at_ : WrtAt w b o W
  free : ∀ i, i < 18 → w.frozen? ⟨b, o + i, none⟩ = false
  key : Ky W.k
theorem WrtMine.made (w : World) (T : TypeId) (W : Wrt) (hk : Ky W.k) : WrtMine (w.alloc (.cells (encW W).toArray T)) w.heap.size 0 W :=
  ⟨⟨lies_made w (encW W).toArray T⟩, fun i hi => World.frozen?_alloc_new _ _ _ _, hk⟩
theorem WrtMine.past {w w' : World} {b o : Nat} {W : Wrt} (h : WrtMine w b o W) (hb : Below w.heap.size w w') : WrtMine w' b o W :=
  ⟨h.at_.past hb, fun i hi => by rw [hb.frozen (p := ⟨b, o + i, none⟩) (h.at_.lt h.key)]; exact h.free i hi, h.key⟩
theorem WrtAt.range {w : World} {b o : Nat} {W : Wrt} (h : WrtAt w b o W) : w.rangeAt b o (encW W) := h.lies.range
theorem WrtMine.there {w : World} {b o : Nat} {W : Wrt} (h : WrtMine w b o W) : w.there b o 18 := fun j hj => by
  have hl := encW_len h.key
  obtain ⟨u, hu⟩ : ∃ u, (encW W)[j]? = some u := ⟨_, List.getElem?_eq_getElem (by omega)⟩
  exact ⟨by rw [h.at_.lies.at j u hu]; rfl, h.free j hj⟩
theorem WrtMine.store {w : World} {b o : Nat} {W W' : Wrt} (h : WrtMine w b o W) (hk : Ky W'.k) : WrtMine (w.setCells b o (encW W')) b o W' := by
  have ht := h.there
  rw [← encW_len hk] at ht
  exact ⟨⟨lies_of (World.rangeAt_setCells_same w b o (encW W') ht)⟩, fun i hi => by rw [World.frozen?_setCells]; exact h.free i hi, hk⟩
theorem wpList_load_wrt (d : Tmp) {ops : Array Oper} {rest : List Oper} {op : Oper} {a : Act} {w : World} {Q : Exit → Act → World → Prop} (hd : op.dst = some d) (hw : Region.wanted op (yielded ops a.tmps) = true) (x : Operand) (ho : op.op = .load 80 x)
    (b o : Nat) (hx : a.eval x = .pointer (some ⟨b, o, none⟩)) (W : Wrt) (hk : Ky W.k) (hat : WrtAt w b o W)
    (h : wpList Tryz.prog ops Q rest (a.put op.dst (wv W)) w) : wpList Tryz.prog ops Q (op :: rest) a w :=
  wpList_step fun K hK => by
    rw [if_pos hw]
    exact wp_load_mid 80 x ho b o hx (encW W) _ hat.range Tryz.underlying80 rfl (by rw [info_wrt, encW_len hk]) (hK _ _ h)
theorem wpList_store_wrt (d : Operand) {ops : Array Oper} {rest : List Oper} {op : Oper} {a : Act} {w : World} {Q : Exit → Act → World → Prop} (hgd : op.guard = none) (y : Operand) (ho : op.op = .store 80 d y)
    (b o : Nat) (W W' : Wrt) (hx : a.eval d = .pointer (some ⟨b, o, none⟩)) (hy : a.eval y = wv W') (hk : Ky W'.k) (hat : WrtMine w b o W)
    (h : ∀ u, u = w.setCells b o (encW W') → wpList Tryz.prog ops Q rest (a.put op.dst undef) u) : wpList Tryz.prog ops Q (op :: rest) a w := by
  have hl : (encW W').toArray.size = 18 := by simp [encW_len hk]
  refine wpList_store_mid hgd 80 d y ho b o (encW W').toArray hx hy (by rw [hl]; exact hat.there) (by rw [info_wrt, hl]) (encW_all W') ?_
  exact h _ rfl
def zeroW : Wrt := ⟨zeroK, [], false⟩
theorem zeroW_ky : Ky zeroW.k := zeroK_ky
theorem zeroW_cells : (encW zeroW).toArray = #[.int .u8 0, .int .u8 0, .int .u8 0, .int .u8 0, .int .u8 0, .int .u8 0, .int .u8 0, .int .u8 0, .int .u8 0, .int .u8 0, .int .u8 0, .int .u8 0, .int .u8 0, .int .u8 0, .int .u8 0, .int .u8 0, .string ⟨#[]⟩, .bool false] := rfl
/-- A new block that a write is laid into. -/
theorem laid_wrt (w : World) (T : TypeId) {W : Wrt} (hk : Ky W.k) : WrtMine ((w.alloc (.cells (encW zeroW).toArray T)).setCells w.heap.size 0 (encW W)) w.heap.size 0 W ∧ Below w.heap.size w ((w.alloc (.cells (encW zeroW).toArray T)).setCells w.heap.size 0 (encW W)) ∧ ((w.alloc (.cells (encW zeroW).toArray T)).setCells w.heap.size 0 (encW W)).heap.size = w.heap.size + 1 :=
  ⟨(WrtMine.made w T zeroW zeroW_ky).store hk, below_cells (Nat.le_refl _) ((Below.refl _ _).alloc (Nat.le_refl _) _), by rw [size_cells]; simp⟩
/-- Writes that lie one behind the other. -/
structure WrtsAt (w : World) (a : Option Addr) (l : List Wrt) : Prop where
  cells : l = [] ∨ ∃ b o, a = some ⟨b, o, none⟩ ∧ ∀ i W, l[i]? = some W → WrtAt w b (o + i * 18) W
  oks : ∀ W ∈ l, WrtOk W
theorem WrtsAt.past {w w' : World} {a : Option Addr} {l : List Wrt} (h : WrtsAt w a l) (hb : Below w.heap.size w w') : WrtsAt w' a l :=
  ⟨h.cells.imp id (fun ⟨b, o, e, hc⟩ => ⟨b, o, e, fun i W hW => (hc i W hW).past hb⟩), h.oks⟩
theorem WrtsAt.wrt {w : World} {a : Option Addr} {l : List Wrt} (h : WrtsAt w a l) {i : Nat} {W : Wrt} (hW : l[i]? = some W) : ∃ b o, a = some ⟨b, o, none⟩ ∧ WrtAt w b (o + i * 18) W ∧ WrtOk W := by
  rcases h.cells with rfl | ⟨b, o, e, hc⟩
  · simp at hW
  · exact ⟨b, o, e, hc i W hW, h.oks W (List.mem_of_getElem? hW)⟩
/-- An item's cells. -/
abbrev Itm := List Int × List Int
def encI (x : Itm) : List Value := kc x.1 ++ [.string (strOfNums x.2)]
abbrev iv (x : Itm) : Value := .agg (encI x).toArray
structure ItmOk (x : Itm) : Prop where
  key : Ky x.1
  val : ∀ z ∈ x.2, 0 ≤ z ∧ z ≤ 255
  few : x.2.length ≤ 1000000
theorem encI_len {x : Itm} (h : Ky x.1) : (encI x).length = 17 := by unfold encI; rw [List.length_append, kc_len h]; rfl
theorem encI_one (x : Itm) : ∀ u ∈ encI x, u.oneCell' = true := by
  intro u hu
  unfold encI at hu
  rcases List.mem_append.1 hu with e | e
  · exact ints_oneCell _ _ u e
  · simp at e
    rw [e]; rfl
structure ItmAt (w : World) (b o : Nat) (x : Itm) : Prop where
  lies : Lies w (some ⟨b, o, none⟩) (encI x)
theorem ItmAt.key {w : World} {b o : Nat} {x : Itm} (h : ItmAt w b o x) (hk : Ky x.1) : KeyAt w b o x.1 := by
  refine ⟨fun j hj => h.lies.at j _ ?_⟩
  have hl := hk.len
  unfold encI
  rw [List.getElem?_append_left (by rw [kc_len hk]; exact hj)]
  simp [kc, List.getD, show j < x.1.length by omega]
theorem ItmAt.cell {w : World} {b o : Nat} {x : Itm} (h : ItmAt w b o x) (hk : Ky x.1) : w.cell? ⟨b, o + 16, none⟩ = some (.string (strOfNums x.2)) := by
  have hl := kc_len hk
  refine h.lies.at 16 _ ?_
  unfold encI; rw [List.getElem?_append_right (by omega), hl]; rfl
theorem ItmAt.past {w w' : World} {b o : Nat} {x : Itm} (h : ItmAt w b o x) (hb : Below w.heap.size w w') : ItmAt w' b o x := ⟨h.lies.past hb⟩
theorem itmEl : ElT 40 132 17 32 := ElT.mk' (z := iv (zeroK, [])) Tryz.underlying40 (by kernel_rfl) (by kernel_rfl) (by decide) (by decide)
/-- Items that lie one behind the other. -/
structure ItmsAt (w : World) (a : Option Addr) (l : List Itm) : Prop where
  cells : l = [] ∨ ∃ b o, a = some ⟨b, o, none⟩ ∧ ∀ i x, l[i]? = some x → ItmAt w b (o + i * 17) x
  oks : ∀ x ∈ l, ItmOk x
theorem ItmsAt.past {w w' : World} {a : Option Addr} {l : List Itm} (h : ItmsAt w a l) (hb : Below w.heap.size w w') : ItmsAt w' a l :=
  ⟨h.cells.imp id (fun ⟨b, o, e, hc⟩ => ⟨b, o, e, fun i x hx => (hc i x hx).past hb⟩), h.oks⟩
theorem own_itms {w : World} {B n : Nat} {v : Value} {l : List Itm} (h : w.ownsRow B 132 17 v n (l.flatMap encI)) (hl : l.length = n) (hk : ∀ x ∈ l, ItmOk x) : ∃ a c, v = .slice a n c ∧ n ≤ c ∧ ItmsAt w a l := by
  rcases h.2 with ⟨rfl, h0⟩ | ⟨g, cap, cur, rfl, hg, hh, h1, h2, h3, h4⟩
  · subst h0
    exact ⟨none, 0, rfl, Nat.le_refl _, .inl (List.eq_nil_of_length_eq_zero hl), hk⟩
  · refine ⟨_, cap, rfl, h1, .inr ⟨g, 0, rfl, fun i x hx => ⟨?_⟩⟩, hk⟩
    exact (own_lies h).el (fun y hy => encI_len (hk y hy).key) hx
end Go.Proofs.YtileidbdmpeciaaGreat

