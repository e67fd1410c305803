/-
  Writes (a key, a value, whether it is gone) and items (a key, a value) in memory: loaded and stored whole, lists of them.
-/
import Derived.Test.YtcppihpehipelaaAu49
import Derived.Test.YtcppihpehipelaaAu44
namespace Go.Proofs.Ytcppihpehipelaa
open Go.RowKit
set_option linter.unusedVariables false

/-- A write's cells. -/
def encW (W : Wrt) : List Value := kc W.k ++ [.string (strOfNums W.v), .bool W.g]
abbrev wv (W : Wrt) : Value := .agg (encW W).toArray
structure WrtOk (W : Wrt) : Prop where
  key : Ky W.k
  val : ∀ z ∈ W.v, 0 ≤ z ∧ z ≤ 255
  few : W.v.length ≤ maxLen
theorem encW_len {W : Wrt} (h : Ky W.k) : (encW W).length = 18 := by unfold encW; rw [List.length_append, kc_len h]; rfl
theorem encW_one (W : Wrt) : ∀ u ∈ encW W, u.oneCell' = true := by
  intro u hu
  unfold encW at hu
  rcases List.mem_append.1 hu with e | e
  · exact ints_oneCell _ _ u e
  · simp at e
    rcases e with rfl | rfl <;> rfl
theorem encW_all (W : Wrt) : (encW W).toArray.all (·.oneCell') = true := all_oneCell_toArray (encW_one W)
structure WrtAt (w : World) (b o : Nat) (W : Wrt) : Prop where
  lies : Lies w (some ⟨b, o, none⟩) (encW W)
theorem WrtAt.key {w : World} {b o : Nat} {W : Wrt} (h : WrtAt w b o W) (hk : Ky W.k) : KeyAt w b o W.k := by
  refine ⟨fun j hj => h.lies.at j _ ?_⟩
  have hl := hk.len
  unfold encW
  rw [List.getElem?_append_left (by rw [kc_len hk]; exact hj)]
  simp [kc, List.getD, show j < W.k.length by omega]
theorem WrtAt.cells {w : World} {b o : Nat} {W : Wrt} (h : WrtAt w b o W) (hk : Ky W.k) : w.cell? ⟨b, o + 16, none⟩ = some (.string (strOfNums W.v)) ∧ w.cell? ⟨b, o + 17, none⟩ = some (.bool W.g) := by
  have hl := kc_len hk
  refine ⟨h.lies.at 16 _ ?_, h.lies.at 17 _ ?_⟩ <;> (unfold encW; rw [List.getElem?_append_right (by omega), hl]; rfl)
theorem WrtAt.past {w w' : World} {b o : Nat} {W : Wrt} (h : WrtAt w b o W) (hb : Below w.heap.size w w') : WrtAt w' b o W := ⟨h.lies.past hb⟩
theorem WrtAt.lt {w : World} {b o : Nat} {W : Wrt} (h : WrtAt w b o W) (hk : Ky W.k) : b < w.heap.size := cell_lt (h.cells hk).1
theorem info_wrt : (Try.prog.info? 86).map (·.size) = some 18 := by kernel_rfl
/-- One write in memory of the call's own. -/
structure WrtMine (w : World) (b o : Nat) (W : Wrt) : Prop where
  at_ : WrtAt w b o W
  free : ∀ i, i < 18 → w.frozen? ⟨b, o + i, none⟩ = false
  key : Ky W.k
theorem WrtMine.made (w : World) (T : TypeId) (W : Wrt) (hk : Ky W.k) : WrtMine (w.alloc (.cells (encW W).toArray T)) w.heap.size 0 W :=
  ⟨⟨lies_made w (encW W).toArray T⟩, fun i hi => World.frozen?_alloc_new _ _ _ _, hk⟩
theorem WrtMine.past {w w' : World} {b o : Nat} {W : Wrt} (h : WrtMine w b o W) (hb : Below w.heap.size w w') : WrtMine w' b o W :=
  ⟨h.at_.past hb, fun i hi => by rw [hb.frozen (p := ⟨b, o + i, none⟩) (h.at_.lt h.key)]; exact h.free i hi, h.key⟩
theorem WrtAt.range {w : World} {b o : Nat} {W : Wrt} (h : WrtAt w b o W) : w.rangeAt b o (encW W) := h.lies.range
theorem WrtMine.there {w : World} {b o : Nat} {W : Wrt} (h : WrtMine w b o W) : w.there b o 18 := fun j hj => by
  have hl := encW_len h.key
  obtain ⟨u, hu⟩ : ∃ u, (encW W)[j]? = some u := ⟨_, List.getElem?_eq_getElem (by omega)⟩
  exact ⟨by rw [h.at_.lies.at j u hu]; rfl, h.free j hj⟩
theorem WrtMine.store {w : World} {b o : Nat} {W W' : Wrt} (h : WrtMine w b o W) (hk : Ky W'.k) : WrtMine (w.setCells b o (encW W')) b o W' := by
  have ht := h.there
  rw [← encW_len hk] at ht
  exact ⟨⟨lies_of (World.rangeAt_setCells_same w b o (encW W') ht)⟩, fun i hi => by rw [World.frozen?_setCells]; exact h.free i hi, hk⟩
theorem wpList_load_wrt (d : Tmp) {ops : Array Oper} {rest : List Oper} {op : Oper} {a : Act} {w : World} {Q : Exit → Act → World → Prop} (hd : op.dst = some d) (hw : Region.wanted op (yielded ops a.tmps) = true) (x : Operand) (ho : op.op = .load 86 x)
    (b o : Nat) (hx : a.eval x = .pointer (some ⟨b, o, none⟩)) (W : Wrt) (hk : Ky W.k) (hat : WrtAt w b o W)
    (h : wpList Try.prog ops Q rest (a.put op.dst (wv W)) w) : wpList Try.prog ops Q (op :: rest) a w :=
  wpList_step fun K hK => by
    rw [if_pos hw]
    exact wp_load_mid 86 x ho b o hx (encW W) _ hat.range Try.underlying86 rfl (by rw [info_wrt, encW_len hk]) (hK _ _ h)
theorem wpList_store_wrt (d : Operand) {ops : Array Oper} {rest : List Oper} {op : Oper} {a : Act} {w : World} {Q : Exit → Act → World → Prop} (hgd : op.guard = none) (y : Operand) (ho : op.op = .store 86 d y)
    (b o : Nat) (W W' : Wrt) (hx : a.eval d = .pointer (some ⟨b, o, none⟩)) (hy : a.eval y = wv W') (hk : Ky W'.k) (hat : WrtMine w b o W)
    (h : ∀ u, u = w.setCells b o (encW W') → wpList Try.prog ops Q rest (a.put op.dst undef) u) : wpList Try.prog ops Q (op :: rest) a w := by
  have hl : (encW W').toArray.size = 18 := by simp [encW_len hk]
  refine wpList_store_mid hgd 86 d y ho b o (encW W').toArray hx hy (by rw [hl]; exact hat.there) (by rw [info_wrt, hl]) (encW_all W') ?_
  exact h _ rfl
def zeroW : Wrt := ⟨zeroK, [], false⟩
theorem zeroW_ky : Ky zeroW.k := zeroK_ky
theorem zeroW_cells : (encW zeroW).toArray = #[.int .u8 0, .int .u8 0, .int .u8 0, .int .u8 0, .int .u8 0, .int .u8 0, .int .u8 0, .int .u8 0, .int .u8 0, .int .u8 0, .int .u8 0, .int .u8 0, .int .u8 0, .int .u8 0, .int .u8 0, .int .u8 0, .string ⟨#[]⟩, .bool false] := rfl
/-- A new block that a write is laid into. -/
theorem laid_wrt (w : World) (T : TypeId) {W : Wrt} (hk : Ky W.k) : WrtMine ((w.alloc (.cells (encW zeroW).toArray T)).setCells w.heap.size 0 (encW W)) w.heap.size 0 W ∧ Below w.heap.size w ((w.alloc (.cells (encW zeroW).toArray T)).setCells w.heap.size 0 (encW W)) ∧ ((w.alloc (.cells (encW zeroW).toArray T)).setCells w.heap.size 0 (encW W)).heap.size = w.heap.size + 1 :=
  ⟨(WrtMine.made w T zeroW zeroW_ky).store hk, below_cells (Nat.le_refl _) ((Below.refl _ _).alloc (Nat.le_refl _) _), by rw [size_cells]; simp⟩
/-- Writes that lie one behind the other. -/
structure WrtsAt (w : World) (a : Option Addr) (l : List Wrt) : Prop where
  cells : l = [] ∨ ∃ b o, a = some ⟨b, o, none⟩ ∧ ∀ i W, l[i]? = some W → WrtAt w b (o + i * 18) W
  oks : ∀ W ∈ l, WrtOk W
theorem WrtsAt.past {w w' : World} {a : Option Addr} {l : List Wrt} (h : WrtsAt w a l) (hb : Below w.heap.size w w') : WrtsAt w' a l :=
  ⟨h.cells.imp id (fun ⟨b, o, e, hc⟩ => ⟨b, o, e, fun i W hW => (hc i W hW).past hb⟩), h.oks⟩
theorem WrtsAt.wrt {w : World} {a : Option Addr} {l : List Wrt} (h : WrtsAt w a l) {i : Nat} {W : Wrt} (hW : l[i]? = some W) : ∃ b o, a = some ⟨b, o, none⟩ ∧ WrtAt w b (o + i * 18) W ∧ WrtOk W := by
  rcases h.cells with rfl | ⟨b, o, e, hc⟩
  · simp at hW
  · exact ⟨b, o, e, hc i W hW, h.oks W (List.mem_of_getElem? hW)⟩
/-- An item's cells. -/
abbrev Itm := List Int × List Int
def encI (x : Itm) : List Value := kc x.1 ++ [.string (strOfNums x.2)]
abbrev iv (x : Itm) : Value := .agg (encI x).toArray
structure ItmOk (x : Itm) : Prop where
  key : Ky x.1
  val : ∀ z ∈ x.2, 0 ≤ z ∧ z ≤ 255
  few : x.2.length ≤ 1000000
structure ItmAt (w : World) (b o : Nat) (x : Itm) : Prop where
  lies : Lies w (some ⟨b, o, none⟩) (encI x)
theorem ItmAt.key {w : World} {b o : Nat} {x : Itm} (h : ItmAt w b o x) (hk : Ky x.1) : KeyAt w b o x.1 := by
  refine ⟨fun j hj => h.lies.at j _ ?_⟩
  have hl := hk.len
  unfold encI
  rw [List.getElem?_append_left (by rw [kc_len hk]; exact hj)]
  simp [kc, List.getD, show j < x.1.length by omega]
theorem ItmAt.cell {w : World} {b o : Nat} {x : Itm} (h : ItmAt w b o x) (hk : Ky x.1) : w.cell? ⟨b, o + 16, none⟩ = some (.string (strOfNums x.2)) := by
  have hl := kc_len hk
  refine h.lies.at 16 _ ?_
  unfold encI; rw [List.getElem?_append_right (by omega), hl]; rfl
theorem ItmAt.past {w w' : World} {b o : Nat} {x : Itm} (h : ItmAt w b o x) (hb : Below w.heap.size w w') : ItmAt w' b o x := ⟨h.lies.past hb⟩
/-- Items that lie one behind the other. -/
structure ItmsAt (w : World) (a : Option Addr) (l : List Itm) : Prop where
  cells : l = [] ∨ ∃ b o, a = some ⟨b, o, none⟩ ∧ ∀ i x, l[i]? = some x → ItmAt w b (o + i * 17) x
  oks : ∀ x ∈ l, ItmOk x
theorem ItmsAt.past {w w' : World} {a : Option Addr} {l : List Itm} (h : ItmsAt w a l) (hb : Below w.heap.size w w') : ItmsAt w' a l :=
  ⟨h.cells.imp id (fun ⟨b, o, e, hc⟩ => ⟨b, o, e, fun i x hx => (hc i x hx).past hb⟩), h.oks⟩
end Go.Proofs.Ytcppihpehipelaa
