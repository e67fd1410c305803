/-
  Parts laid into a row of cells.
  The document's own stores (hourglassref10: Store) in memory: a list of versions of twenty cells each.
  Versions that are loaded, stored and answered whole.
  Writes (a key, a value, whether it is gone) and items (a key, a value) in memory: loaded and stored whole, lists of them.
  The document's own tables (hourglassref10: Table) in memory: entries of six cells each, each with a list of writes that lies elsewhere.
  The document's own order of keys (hourglassref10: Cmp).
  What the document's own keys (hourglassref10: Good, Cmp, Text, Within, Sum, Of) answer.
-/
import Derived.Test.YtileidbdmpeciaaGreatAu79
import Derived.Test.YtileidbdmpeciaaGreatAu103
import Derived.Test.YtileidbdmpeciaaGreatAu113
import Derived.Deep.MidRow
import Derived.Test.YtileidbdmpeciaaGreatAu105
import Derived.Test.YtileidbdmpeciaaGreatAu92
import Derived.BigRegion
namespace Go.Proofs.YtileidbdmpeciaaGreat
open Go.RowKit
set_option linter.unusedVariables false

theorem fold_off : ∀ (vs : List Value) (off o : Nat) (C : Array Value), List.foldl (fun (cs : Array Value) (x : Value × Nat) => cs.setIfInBounds (off + x.snd) x.fst) C (vs.zipIdx o) = List.foldl (fun (cs : Array Value) (x : Value × Nat) => cs.setIfInBounds x.snd x.fst) C (vs.zipIdx (off + o))
  | [], off, o, C => rfl
  | v :: r, off, o, C => by
    rw [List.zipIdx_cons, List.zipIdx_cons, List.foldl_cons, List.foldl_cons, fold_off r off (o + 1)]
    rfl
theorem fill_step (place : Nat → Option (Nat × Nat)) (C : List Value) (i off n : Nat) (vs : List Value) (hp : place i = some (off, n)) (hv : vs.length = n) (hs : off + n ≤ C.length) (rest : List (Nat × Value)) :
    Instr.fill place C.toArray ((i, .agg vs.toArray) :: rest) = Instr.fill place (C.take off ++ vs ++ C.drop (off + n)).toArray rest := by
  have h0 : ¬ (decide (vs.toArray.size ≠ n) || decide (off + vs.toArray.size > C.toArray.size)) = true := by simp; omega
  have hf : Array.foldl (fun (cs : Array Value) (x : Value × Nat) => cs.setIfInBounds (off + x.snd) x.fst) C.toArray vs.toArray.zipIdx = (C.take off ++ vs ++ C.drop (off + n)).toArray := by
    rw [← Array.foldl_toList]
    apply Array.toList_inj.1
    have e : vs.toArray.zipIdx.toList = vs.zipIdx := by simp
    rw [e, fold_off vs off 0, Nat.add_zero, fold_set vs off C.toArray (by simp; omega)]
    simp [hv]
  rw [← hf]
  conv => lhs; unfold Instr.fill
  simp only [hp, Value.cells]
  exact if_neg h0
end Go.Proofs.YtileidbdmpeciaaGreat

namespace Go.Proofs.YtileidbdmpeciaaGreat
open Go.RowKit
set_option linter.unusedVariables false

/-- A version's cells. -/
def encV (V : Ver) : List Value := kc V.k ++ [.int .i64 V.t, .int .u8 V.n, .string (strOfNums V.v), .bool V.g]
abbrev vv (V : Ver) : Value := .agg (encV V).toArray
def OkL (L : List Ver) : Prop := ∀ V ∈ L, VerOk V
theorem enc_len {V : Ver} (h : Ky V.k) : (encV V).length = 20 := by unfold encV; rw [List.length_append, kc_len h]; rfl
theorem OkL.len {L : List Ver} (h : OkL L) : ∀ V ∈ L, (encV V).length = 20 := fun V hV => enc_len (h V hV).key
theorem enc_one (V : Ver) : ∀ u ∈ encV V, u.oneCell' = true := by
  intro u hu
  unfold encV at hu
  rcases List.mem_append.1 hu with e | e
  · exact ints_oneCell _ _ u e
  · simp at e
    rcases e with rfl | rfl | rfl | rfl <;> rfl
theorem encs_one (L : List Ver) : ∀ u ∈ L.flatMap encV, u.oneCell' = true := flat_one (fun V _ => enc_one V)
theorem verEl : ElT 109 127 20 56 := ElT.mk' (z := vv ⟨zeroK, 0, 0, [], false⟩) Tryz.underlying109 (by kernel_rfl) (by kernel_rfl) (by decide) (by decide)
/-- One version at a place. -/
structure VerAt (w : World) (b o : Nat) (V : Ver) : Prop where
  lies : Lies w (some ⟨b, o, none⟩) (encV V)
theorem VerAt.key {w : World} {b o : Nat} {V : Ver} (h : VerAt w b o V) (hk : Ky V.k) : KeyAt w b o V.k := by
  refine ⟨fun j hj => h.lies.at j _ ?_⟩
  have hl := hk.len
  unfold encV
  rw [List.getElem?_append_left (by rw [kc_len hk]; exact hj)]
  simp [kc, List.getD, show j < V.k.length by omega]
theorem VerAt.cells {w : World} {b o : Nat} {V : Ver} (h : VerAt w b o V) (hk : Ky V.k) : w.cell? ⟨b, o + 16, none⟩ = some (.int .i64 V.t) ∧ w.cell? ⟨b, o + 17, none⟩ = some (.int .u8 V.n) ∧ w.cell? ⟨b, o + 18, none⟩ = some (.string (strOfNums V.v)) ∧ w.cell? ⟨b, o + 19, none⟩ = some (.bool V.g) := by
  have hl := kc_len hk
  refine ⟨h.lies.at 16 _ ?_, h.lies.at 17 _ ?_, h.lies.at 18 _ ?_, h.lies.at 19 _ ?_⟩ <;> (unfold encV; rw [List.getElem?_append_right (by omega), hl]; rfl)
theorem VerAt.past {w w' : World} {b o : Nat} {V : Ver} (h : VerAt w b o V) (hb : Below w.heap.size w w') : VerAt w' b o V := ⟨h.lies.past hb⟩
/-- A store in block p, all of it made by the call (at B or above). -/
structure StoreR (u : World) (B p : Nat) (L : List Ver) : Prop where
  lt : p < u.heap.size
  lo : B ≤ p
  list : ∃ a c, u.cell? ⟨p, 0, none⟩ = some (.slice a L.length c) ∧ u.ownsRow B 127 20 (.slice a L.length c) L.length (L.flatMap encV) ∧ (∀ k, (Value.slice a L.length c).ownBlock = some k → k ≠ p)
  free : u.frozen? ⟨p, 0, none⟩ = false
  oks : OkL L
  few : L.length ≤ 1000000
theorem StoreR.past {u u' : World} {B p : Nat} {L : List Ver} (h : StoreR u B p L) (hb : Below u.heap.size u u') : StoreR u' B p L := by
  obtain ⟨a, c, h1, h2, h3⟩ := h.list
  exact ⟨Nat.lt_of_lt_of_le h.lt hb.size, h.lo, ⟨a, c, (hb.cell (p := ⟨p, 0, none⟩) h.lt).trans h1, own_below h2 hb (Nat.le_refl _), h3⟩, (hb.frozen (p := ⟨p, 0, none⟩) h.lt).trans (h.free), h.oks, h.few⟩
/-- The list's cell, and each version of it. -/
theorem StoreR.open {u : World} {B p : Nat} {L : List Ver} (h : StoreR u B p L) : ∃ a c, L.length ≤ c ∧ (∀ v, Below u.heap.size u v → v.cell? ⟨p, 0, none⟩ = some (.slice a L.length c)) ∧ (L = [] ∨ ∃ g, a = some ⟨g, 0, none⟩ ∧ g < u.heap.size ∧ B ≤ g ∧ ∀ v, Below u.heap.size u v → ∀ i V, L[i]? = some V → VerAt v g (i * 20) V) := by
  obtain ⟨a, c, h1, h2, h3⟩ := h.list
  refine ⟨a, c, ?_, fun v hb => (hb.cell (p := ⟨p, 0, none⟩) h.lt).trans h1, ?_⟩
  · rcases h2.2 with ⟨e1, e2⟩ | ⟨g, cap, cur, e1, _, _, e5, _⟩
    · omega
    · cases e1; exact e5
  · rcases h2.2 with ⟨e1, e2⟩ | ⟨g, cap, cur, e1, hg, hh, e5, _⟩
    · exact .inl (List.eq_nil_of_length_eq_zero e2)
    · cases e1
      have hlt := (Array.getElem?_eq_some_iff.1 hh).1
      refine .inr ⟨g, rfl, hlt, hg, fun v hb i V hV => ⟨?_⟩⟩
      have hl : Lies u (some ⟨g, 0, none⟩) (L.flatMap encV) := own_lies h2
      have := (hl.el h.oks.len hV).past hb
      rwa [Nat.zero_add] at this
end Go.Proofs.YtileidbdmpeciaaGreat

namespace Go.Proofs.YtileidbdmpeciaaGreat
open Go.RowKit
set_option linter.unusedVariables false

theorem info_ver : (Tryz.prog.info? 127).map (·.size) = some 20 := by kernel_rfl
/-- One version in memory of the call's own. -/
structure VerMine (w : World) (b o : Nat) (V : Ver) : Prop where
  at_ : VerAt w b o V
  free : ∀ i, i < 20 → w.frozen? ⟨b, o + i, none⟩ = false
  key : Ky V.k
theorem VerAt.lt {w : World} {b o : Nat} {V : Ver} (h : VerAt w b o V) (hk : Ky V.k) : b < w.heap.size := cell_lt (h.cells hk).1
theorem VerMine.made (w : World) (T : TypeId) (V : Ver) (hk : Ky V.k) : VerMine (w.alloc (.cells (encV V).toArray T)) w.heap.size 0 V :=
  ⟨⟨lies_made w (encV V).toArray T⟩, fun i hi => World.frozen?_alloc_new _ _ _ _, hk⟩
theorem VerMine.past {w w' : World} {b o : Nat} {V : Ver} (h : VerMine w b o V) (hb : Below w.heap.size w w') : VerMine w' b o V :=
  ⟨h.at_.past hb, fun i hi => by rw [hb.frozen (p := ⟨b, o + i, none⟩) (h.at_.lt h.key)]; exact h.free i hi, h.key⟩
theorem VerAt.range {w : World} {b o : Nat} {V : Ver} (h : VerAt w b o V) : w.rangeAt b o (encV V) := h.lies.range
theorem VerMine.there {w : World} {b o : Nat} {V : Ver} (h : VerMine w b o V) : w.there b o 20 := fun j hj => by
  have hl := enc_len h.key
  obtain ⟨u, hu⟩ : ∃ u, (encV V)[j]? = some u := ⟨_, List.getElem?_eq_getElem (by omega)⟩
  exact ⟨by rw [h.at_.lies.at j u hu]; rfl, h.free j hj⟩
theorem VerMine.store {w : World} {b o : Nat} {V V' : Ver} (h : VerMine w b o V) (hk : Ky V'.k) : VerMine (w.setCells b o (encV V')) b o V' := by
  have ht := h.there
  rw [← enc_len hk] at ht
  exact ⟨⟨lies_of (World.rangeAt_setCells_same w b o (encV V') ht)⟩, fun i hi => by rw [World.frozen?_setCells]; exact h.free i hi, hk⟩
theorem enc_all (V : Ver) : (encV V).toArray.all (·.oneCell') = true := all_oneCell_toArray (enc_one V)
theorem wpList_load_ver (d : Tmp) {ops : Array Oper} {rest : List Oper} {op : Oper} {a : Act} {w : World} {Q : Exit → Act → World → Prop} (hd : op.dst = some d) (hw : Region.wanted op (yielded ops a.tmps) = true) (x : Operand) (ho : op.op = .load 127 x)
    (b o : Nat) (hx : a.eval x = .pointer (some ⟨b, o, none⟩)) (V : Ver) (hk : Ky V.k) (hat : VerAt w b o V)
    (h : wpList Tryz.prog ops Q rest (a.put op.dst (vv V)) w) : wpList Tryz.prog ops Q (op :: rest) a w :=
  wpList_step fun K hK => by
    rw [if_pos hw]
    exact wp_load_mid 127 x ho b o hx (encV V) _ hat.range Tryz.underlying127 rfl (by rw [info_ver, enc_len hk]) (hK _ _ h)
theorem wpList_store_ver (d : Operand) {ops : Array Oper} {rest : List Oper} {op : Oper} {a : Act} {w : World} {Q : Exit → Act → World → Prop} (hgd : op.guard = none) (y : Operand) (ho : op.op = .store 127 d y)
    (b o : Nat) (V V' : Ver) (hx : a.eval d = .pointer (some ⟨b, o, none⟩)) (hy : a.eval y = vv V') (hk : Ky V'.k) (hat : VerMine w b o V)
    (h : ∀ u, u = w.setCells b o (encV V') → wpList Tryz.prog ops Q rest (a.put op.dst undef) u) : wpList Tryz.prog ops Q (op :: rest) a w := by
  have hl : (encV V').toArray.size = 20 := by simp [enc_len hk]
  refine wpList_store_mid hgd 127 d y ho b o (encV V').toArray hx hy (by rw [hl]; exact hat.there) (by rw [info_ver, hl]) (enc_all V') ?_
  exact h _ rfl
theorem results_ver {fn : Func} {c t : Tmp} (h : fn.results = #[.cell c 127, .tmp t]) (tmps : Array Value) (w : World) (b o : Nat) (V : Ver) (hp : tmps.getD c undef = .pointer (some ⟨b, o, none⟩)) (hk : Ky V.k) (hat : VerAt w b o V) :
    (results fn tmps).run Tryz.prog w = .ok (.tuple #[vv V, tmps.getD t undef]) w := by
  have hl := run_loadVar_mid (P := Tryz.prog) w b o 127 (encV V) _ hat.range Tryz.underlying127 rfl (by rw [info_ver, enc_len hk])
  unfold results
  rw [h]
  simp only [List.mapM_toArray, List.mapM_cons, List.mapM_nil, hp]
  simp [asAddr, hl]
def zeroV : Ver := ⟨zeroK, 0, 0, [], false⟩
theorem zeroV_ky : Ky zeroV.k := zeroK_ky
theorem zeroV_cells : (encV zeroV).toArray = #[.int .u8 0, .int .u8 0, .int .u8 0, .int .u8 0, .int .u8 0, .int .u8 0, .int .u8 0, .int .u8 0, .int .u8 0, .int .u8 0, .int .u8 0, .int .u8 0, .int .u8 0, .int .u8 0, .int .u8 0, .int .u8 0, .int .i64 0, .int .u8 0, .string ⟨#[]⟩, .bool false] := rfl
end Go.Proofs.YtileidbdmpeciaaGreat

namespace Go.Proofs.YtileidbdmpeciaaGreat
open Go.RowKit
set_option linter.unusedVariables false

/-- A write's cells. -/
def encW (W : Wrt) : List Value := kc W.k ++ [.string (strOfNums W.v), .bool W.g]
abbrev wv (W : Wrt) : Value := .agg (encW W).toArray
structure WrtOk (W : Wrt) : Prop where
  key : Ky W.k
  val : ∀ z ∈ W.v, 0 ≤ z ∧ z ≤ 255
  few : W.v.length ≤ maxLen
theorem encW_len {W : Wrt} (h : Ky W.k) : (encW W).length = 18 := by unfold encW; rw [List.length_append, kc_len h]; rfl
theorem encW_one (W : Wrt) : ∀ u ∈ encW W, u.oneCell' = true := by
  intro u hu
  unfold encW at hu
  rcases List.mem_append.1 hu with e | e
  · exact ints_oneCell _ _ u e
  · simp at e
    rcases e with rfl | rfl <;> rfl
theorem encW_all (W : Wrt) : (encW W).toArray.all (·.oneCell') = true := all_oneCell_toArray (encW_one W)
structure WrtAt (w : World) (b o : Nat) (W : Wrt) : Prop where
  lies : Lies w (some ⟨b, o, none⟩) (encW W)
theorem WrtAt.key {w : World} {b o : Nat} {W : Wrt} (h : WrtAt w b o W) (hk : Ky W.k) : KeyAt w b o W.k := by
  refine ⟨fun j hj => h.lies.at j _ ?_⟩
  have hl := hk.len
  unfold encW
  rw [List.getElem?_append_left (by rw [kc_len hk]; exact hj)]
  simp [kc, List.getD, show j < W.k.length by omega]
theorem WrtAt.cells {w : World} {b o : Nat} {W : Wrt} (h : WrtAt w b o W) (hk : Ky W.k) : w.cell? ⟨b, o + 16, none⟩ = some (.string (strOfNums W.v)) ∧ w.cell? ⟨b, o + 17, none⟩ = some (.bool W.g) := by
  have hl := kc_len hk
  refine ⟨h.lies.at 16 _ ?_, h.lies.at 17 _ ?_⟩ <;> (unfold encW; rw [List.getElem?_append_right (by omega), hl]; rfl)
theorem WrtAt.past {w w' : World} {b o : Nat} {W : Wrt} (h : WrtAt w b o W) (hb : Below w.heap.size w w') : WrtAt w' b o W := ⟨h.lies.past hb⟩
theorem WrtAt.lt {w : World} {b o : Nat} {W : Wrt} (h : WrtAt w b o W) (hk : Ky W.k) : b < w.heap.size := cell_lt (h.cells hk).1
theorem info_wrt : (Tryz.prog.info? 80).map (·.size) = some 18 := by kernel_rfl
/-- One write in memory of the call's own. -/
structure WrtMine (w : World) (b o : Nat) (W : Wrt) : Prop where
  at_ : WrtAt w b o W
  free : ∀ i, i < 18 → w.frozen? ⟨b, o + i, none⟩ = false
  key : Ky W.k
theorem WrtMine.made (w : World) (T : TypeId) (W : Wrt) (hk : Ky W.k) : WrtMine (w.alloc (.cells (encW W).toArray T)) w.heap.size 0 W :=
  ⟨⟨lies_made w (encW W).toArray T⟩, fun i hi => World.frozen?_alloc_new _ _ _ _, hk⟩
theorem WrtMine.past {w w' : World} {b o : Nat} {W : Wrt} (h : WrtMine w b o W) (hb : Below w.heap.size w w') : WrtMine w' b o W :=
  ⟨h.at_.past hb, fun i hi => by rw [hb.frozen (p := ⟨b, o + i, none⟩) (h.at_.lt h.key)]; exact h.free i hi, h.key⟩
theorem WrtAt.range {w : World} {b o : Nat} {W : Wrt} (h : WrtAt w b o W) : w.rangeAt b o (encW W) := h.lies.range
theorem WrtMine.there {w : World} {b o : Nat} {W : Wrt} (h : WrtMine w b o W) : w.there b o 18 := fun j hj => by
  have hl := encW_len h.key
  obtain ⟨u, hu⟩ : ∃ u, (encW W)[j]? = some u := ⟨_, List.getElem?_eq_getElem (by omega)⟩
  exact ⟨by rw [h.at_.lies.at j u hu]; rfl, h.free j hj⟩
theorem WrtMine.store {w : World} {b o : Nat} {W W' : Wrt} (h : WrtMine w b o W) (hk : Ky W'.k) : WrtMine (w.setCells b o (encW W')) b o W' := by
  have ht := h.there
  rw [← encW_len hk] at ht
  exact ⟨⟨lies_of (World.rangeAt_setCells_same w b o (encW W') ht)⟩, fun i hi => by rw [World.frozen?_setCells]; exact h.free i hi, hk⟩
theorem wpList_load_wrt (d : Tmp) {ops : Array Oper} {rest : List Oper} {op : Oper} {a : Act} {w : World} {Q : Exit → Act → World → Prop} (hd : op.dst = some d) (hw : Region.wanted op (yielded ops a.tmps) = true) (x : Operand) (ho : op.op = .load 80 x)
    (b o : Nat) (hx : a.eval x = .pointer (some ⟨b, o, none⟩)) (W : Wrt) (hk : Ky W.k) (hat : WrtAt w b o W)
    (h : wpList Tryz.prog ops Q rest (a.put op.dst (wv W)) w) : wpList Tryz.prog ops Q (op :: rest) a w :=
  wpList_step fun K hK => by
    rw [if_pos hw]
    exact wp_load_mid 80 x ho b o hx (encW W) _ hat.range Tryz.underlying80 rfl (by rw [info_wrt, encW_len hk]) (hK _ _ h)
theorem wpList_store_wrt (d : Operand) {ops : Array Oper} {rest : List Oper} {op : Oper} {a : Act} {w : World} {Q : Exit → Act → World → Prop} (hgd : op.guard = none) (y : Operand) (ho : op.op = .store 80 d y)
    (b o : Nat) (W W' : Wrt) (hx : a.eval d = .pointer (some ⟨b, o, none⟩)) (hy : a.eval y = wv W') (hk : Ky W'.k) (hat : WrtMine w b o W)
    (h : ∀ u, u = w.setCells b o (encW W') → wpList Tryz.prog ops Q rest (a.put op.dst undef) u) : wpList Tryz.prog ops Q (op :: rest) a w := by
  have hl : (encW W').toArray.size = 18 := by simp [encW_len hk]
  refine wpList_store_mid hgd 80 d y ho b o (encW W').toArray hx hy (by rw [hl]; exact hat.there) (by rw [info_wrt, hl]) (encW_all W') ?_
  exact h _ rfl
def zeroW : Wrt := ⟨zeroK, [], false⟩
theorem zeroW_ky : Ky zeroW.k := zeroK_ky
theorem zeroW_cells : (encW zeroW).toArray = #[.int .u8 0, .int .u8 0, .int .u8 0, .int .u8 0, .int .u8 0, .int .u8 0, .int .u8 0, .int .u8 0, .int .u8 0, .int .u8 0, .int .u8 0, .int .u8 0, .int .u8 0, .int .u8 0, .int .u8 0, .int .u8 0, .string ⟨#[]⟩, .bool false] := rfl
/-- A new block that a write is laid into. -/
theorem laid_wrt (w : World) (T : TypeId) {W : Wrt} (hk : Ky W.k) : WrtMine ((w.alloc (.cells (encW zeroW).toArray T)).setCells w.heap.size 0 (encW W)) w.heap.size 0 W ∧ Below w.heap.size w ((w.alloc (.cells (encW zeroW).toArray T)).setCells w.heap.size 0 (encW W)) ∧ ((w.alloc (.cells (encW zeroW).toArray T)).setCells w.heap.size 0 (encW W)).heap.size = w.heap.size + 1 :=
  ⟨(WrtMine.made w T zeroW zeroW_ky).store hk, below_cells (Nat.le_refl _) ((Below.refl _ _).alloc (Nat.le_refl _) _), by rw [size_cells]; simp⟩
/-- Writes that lie one behind the other. -/
structure WrtsAt (w : World) (a : Option Addr) (l : List Wrt) : Prop where
  cells : l = [] ∨ ∃ b o, a = some ⟨b, o, none⟩ ∧ ∀ i W, l[i]? = some W → WrtAt w b (o + i * 18) W
  oks : ∀ W ∈ l, WrtOk W
theorem WrtsAt.past {w w' : World} {a : Option Addr} {l : List Wrt} (h : WrtsAt w a l) (hb : Below w.heap.size w w') : WrtsAt w' a l :=
  ⟨h.cells.imp id (fun ⟨b, o, e, hc⟩ => ⟨b, o, e, fun i W hW => (hc i W hW).past hb⟩), h.oks⟩
theorem WrtsAt.wrt {w : World} {a : Option Addr} {l : List Wrt} (h : WrtsAt w a l) {i : Nat} {W : Wrt} (hW : l[i]? = some W) : ∃ b o, a = some ⟨b, o, none⟩ ∧ WrtAt w b (o + i * 18) W ∧ WrtOk W := by
  rcases h.cells with rfl | ⟨b, o, e, hc⟩
  · simp at hW
  · exact ⟨b, o, e, hc i W hW, h.oks W (List.mem_of_getElem? hW)⟩
/-- An item's cells. -/
abbrev Itm := List Int × List Int
def encI (x : Itm) : List Value := kc x.1 ++ [.string (strOfNums x.2)]
abbrev iv (x : Itm) : Value := .agg (encI x).toArray
structure ItmOk (x : Itm) : Prop where
  key : Ky x.1
  val : ∀ z ∈ x.2, 0 ≤ z ∧ z ≤ 255
  few : x.2.length ≤ 1000000
theorem encI_len {x : Itm} (h : Ky x.1) : (encI x).length = 17 := by unfold encI; rw [List.length_append, kc_len h]; rfl
theorem encI_one (x : Itm) : ∀ u ∈ encI x, u.oneCell' = true := by
  intro u hu
  unfold encI at hu
  rcases List.mem_append.1 hu with e | e
  · exact ints_oneCell _ _ u e
  · simp at e
    rw [e]; rfl
structure ItmAt (w : World) (b o : Nat) (x : Itm) : Prop where
  lies : Lies w (some ⟨b, o, none⟩) (encI x)
theorem ItmAt.key {w : World} {b o : Nat} {x : Itm} (h : ItmAt w b o x) (hk : Ky x.1) : KeyAt w b o x.1 := by
  refine ⟨fun j hj => h.lies.at j _ ?_⟩
  have hl := hk.len
  unfold encI
  rw [List.getElem?_append_left (by rw [kc_len hk]; exact hj)]
  simp [kc, List.getD, show j < x.1.length by omega]
theorem ItmAt.cell {w : World} {b o : Nat} {x : Itm} (h : ItmAt w b o x) (hk : Ky x.1) : w.cell? ⟨b, o + 16, none⟩ = some (.string (strOfNums x.2)) := by
  have hl := kc_len hk
  refine h.lies.at 16 _ ?_
  unfold encI; rw [List.getElem?_append_right (by omega), hl]; rfl
theorem ItmAt.past {w w' : World} {b o : Nat} {x : Itm} (h : ItmAt w b o x) (hb : Below w.heap.size w w') : ItmAt w' b o x := ⟨h.lies.past hb⟩
theorem info_itm : (Tryz.prog.info? 132).map (·.size) = some 17 := by kernel_rfl
theorem itmEl : ElT 40 132 17 32 := ElT.mk' (z := iv (zeroK, [])) Tryz.underlying40 (by kernel_rfl) (by kernel_rfl) (by decide) (by decide)
/-- Items that lie one behind the other. -/
structure ItmsAt (w : World) (a : Option Addr) (l : List Itm) : Prop where
  cells : l = [] ∨ ∃ b o, a = some ⟨b, o, none⟩ ∧ ∀ i x, l[i]? = some x → ItmAt w b (o + i * 17) x
  oks : ∀ x ∈ l, ItmOk x
theorem ItmsAt.past {w w' : World} {a : Option Addr} {l : List Itm} (h : ItmsAt w a l) (hb : Below w.heap.size w w') : ItmsAt w' a l :=
  ⟨h.cells.imp id (fun ⟨b, o, e, hc⟩ => ⟨b, o, e, fun i x hx => (hc i x hx).past hb⟩), h.oks⟩
theorem ItmsAt.itm {w : World} {a : Option Addr} {l : List Itm} (h : ItmsAt w a l) {i : Nat} {x : Itm} (hx : l[i]? = some x) : ∃ b o, a = some ⟨b, o, none⟩ ∧ ItmAt w b (o + i * 17) x ∧ ItmOk x := by
  rcases h.cells with rfl | ⟨b, o, e, hc⟩
  · simp at hx
  · exact ⟨b, o, e, hc i x hx, h.oks x (List.mem_of_getElem? hx)⟩
theorem own_itms {w : World} {B n : Nat} {v : Value} {l : List Itm} (h : w.ownsRow B 132 17 v n (l.flatMap encI)) (hl : l.length = n) (hk : ∀ x ∈ l, ItmOk x) : ∃ a c, v = .slice a n c ∧ n ≤ c ∧ ItmsAt w a l := by
  rcases h.2 with ⟨rfl, h0⟩ | ⟨g, cap, cur, rfl, hg, hh, h1, h2, h3, h4⟩
  · subst h0
    exact ⟨none, 0, rfl, Nat.le_refl _, .inl (List.eq_nil_of_length_eq_zero hl), hk⟩
  · refine ⟨_, cap, rfl, h1, .inr ⟨g, 0, rfl, fun i x hx => ⟨?_⟩⟩, hk⟩
    exact (own_lies h).el (fun y hy => encI_len (hk y hy).key) hx
end Go.Proofs.YtileidbdmpeciaaGreat

namespace Go.Proofs.YtileidbdmpeciaaGreat
open Go.RowKit
set_option linter.unusedVariables false

/-- An entry in memory: where its writes lie. -/
structure EntM where
  e : Ent
  a : Option Addr
  c : Nat
def encE (x : EntM) : List Value := [.int .i64 x.e.id, .int .i64 x.e.s, .int .u8 x.e.m, .int .i64 x.e.t, .int .u8 x.e.n, .slice x.a x.e.l.length x.c]
abbrev ev (x : EntM) : Value := .agg (encE x).toArray
theorem encE_len (x : EntM) : (encE x).length = 6 := rfl
theorem encE_one (x : EntM) : ∀ u ∈ encE x, u.oneCell' = true := by
  intro u hu
  simp [encE] at hu
  rcases hu with rfl | rfl | rfl | rfl | rfl | rfl <;> rfl
theorem encEs_one (M : List EntM) : ∀ u ∈ M.flatMap encE, u.oneCell' = true := flat_one (fun x _ => encE_one x)
theorem encE_all (x : EntM) : (encE x).toArray.all (·.oneCell') = true := all_oneCell_toArray (encE_one x)
/-- What an entry's numbers are. -/
structure EntOk (e : Ent) : Prop where
  id : -9223372036854775808 ≤ e.id ∧ e.id ≤ 9223372036854775807
  s : -9223372036854775808 ≤ e.s ∧ e.s ≤ 9223372036854775807
  m : 0 ≤ e.m ∧ e.m ≤ 255
  t : -9223372036854775808 ≤ e.t ∧ e.t ≤ 9223372036854775807
  n : 0 ≤ e.n ∧ e.n ≤ 255
/-- Its writes. -/
structure EntW (w : World) (x : EntM) : Prop where
  wr : WrtsAt w x.a x.e.l
  room : x.e.l.length ≤ x.c
  few : x.e.l.length ≤ 1000000
  ok : EntOk x.e
theorem EntW.past {w w' : World} {x : EntM} (h : EntW w x) (hb : Below w.heap.size w w') : EntW w' x := ⟨h.wr.past hb, h.room, h.few, h.ok⟩
theorem WrtsAt.keptP {u u' : World} {a : Option Addr} {l : List Wrt} (h : WrtsAt u a l) (hk : l ≠ [] → ∀ b o, a = some ⟨b, o, none⟩ → u'.heap[b]? = u.heap[b]?) : WrtsAt u' a l := by
  refine ⟨?_, h.oks⟩
  rcases h.cells with e | ⟨b, o, e, hc⟩
  · exact .inl e
  · by_cases hl : l = []
    · exact .inl hl
    · exact .inr ⟨b, o, e, fun i W hW => ⟨lies_of fun j v hv => by rw [cell_kept (hk hl b o e)]; exact (hc i W hW).lies.at j v hv⟩⟩
theorem WrtsAt.blt {u : World} {a : Option Addr} {l : List Wrt} (h : WrtsAt u a l) (hl : l ≠ []) {b o : Nat} (e : a = some ⟨b, o, none⟩) : b < u.heap.size := by
  rcases h.cells with e2 | ⟨b2, o2, e2, hc⟩
  · exact absurd e2 hl
  · rw [e] at e2
    cases e2
    cases l with
    | nil => exact absurd rfl hl
    | cons W r => exact (hc 0 W rfl).lt (h.oks W (by simp)).key
theorem EntW.kept {u u' : World} {x : EntM} (h : EntW u x) (hk : x.e.l ≠ [] → ∀ b o, x.a = some ⟨b, o, none⟩ → u'.heap[b]? = u.heap[b]?) : EntW u' x := ⟨h.wr.keptP hk, h.room, h.few, h.ok⟩
/-- An entry at a place. -/
structure EntAt (w : World) (b o : Nat) (x : EntM) : Prop where
  lies : Lies w (some ⟨b, o, none⟩) (encE x)
theorem EntAt.past {w w' : World} {b o : Nat} {x : EntM} (h : EntAt w b o x) (hb : Below w.heap.size w w') : EntAt w' b o x := ⟨h.lies.past hb⟩
theorem EntAt.cells {w : World} {b o : Nat} {x : EntM} (h : EntAt w b o x) : w.cell? ⟨b, o, none⟩ = some (.int .i64 x.e.id) ∧ w.cell? ⟨b, o + 1, none⟩ = some (.int .i64 x.e.s) ∧ w.cell? ⟨b, o + 2, none⟩ = some (.int .u8 x.e.m) ∧ w.cell? ⟨b, o + 3, none⟩ = some (.int .i64 x.e.t) ∧ w.cell? ⟨b, o + 4, none⟩ = some (.int .u8 x.e.n) ∧ w.cell? ⟨b, o + 5, none⟩ = some (.slice x.a x.e.l.length x.c) :=
  ⟨h.lies.at 0 _ rfl, h.lies.at 1 _ rfl, h.lies.at 2 _ rfl, h.lies.at 3 _ rfl, h.lies.at 4 _ rfl, h.lies.at 5 _ rfl⟩
/-- Plain entries of those in memory. -/
abbrev ents (M : List EntM) : List Ent := M.map (·.e)
/-- A table in block q, all of it made by the call (at B or above); no entry's writes lie in q. -/
structure TabR (u : World) (B q : Nat) (M : List EntM) : Prop where
  lt : q < u.heap.size
  lo : B ≤ q
  list : ∃ a c, u.cell? ⟨q, 0, none⟩ = some (.slice a M.length c) ∧ u.ownsRow B 58 6 (.slice a M.length c) M.length (M.flatMap encE) ∧ (∀ k, (Value.slice a M.length c).ownBlock = some k → k ≠ q)
  free : u.frozen? ⟨q, 0, none⟩ = false
  wrs : ∀ x ∈ M, EntW u x
  far : ∀ x ∈ M, x.e.l ≠ [] → ∀ b o, x.a = some ⟨b, o, none⟩ → b ≠ q
  few : M.length ≤ 1000
theorem TabR.past {u u' : World} {B q : Nat} {M : List EntM} (h : TabR u B q M) (hb : Below u.heap.size u u') : TabR u' B q M := by
  obtain ⟨a, c, h1, h2, h3⟩ := h.list
  exact ⟨Nat.lt_of_lt_of_le h.lt hb.size, h.lo, ⟨a, c, (hb.cell (p := ⟨q, 0, none⟩) h.lt).trans h1, own_below h2 hb (Nat.le_refl _), h3⟩, (hb.frozen (p := ⟨q, 0, none⟩) h.lt).trans h.free, fun x hx => (h.wrs x hx).past hb, h.far, h.few⟩
/-- The list's cell, and each entry of it. -/
theorem TabR.open {u : World} {B q : Nat} {M : List EntM} (h : TabR u B q M) : ∃ a c, M.length ≤ c ∧ (∀ v, Below u.heap.size u v → v.cell? ⟨q, 0, none⟩ = some (.slice a M.length c)) ∧ (M = [] ∨ ∃ g, a = some ⟨g, 0, none⟩ ∧ ∀ v, Below u.heap.size u v → ∀ i x, M[i]? = some x → EntAt v g (i * 6) x) := by
  obtain ⟨a, c, h1, h2, h3⟩ := h.list
  refine ⟨a, c, ?_, fun v hb => (hb.cell (p := ⟨q, 0, none⟩) h.lt).trans h1, ?_⟩
  · rcases h2.2 with ⟨e1, e2⟩ | ⟨g, cap, cur, e1, _, _, e5, _⟩
    · omega
    · cases e1; exact e5
  · rcases h2.2 with ⟨e1, e2⟩ | ⟨g, cap, cur, e1, hg, hh, e5, _⟩
    · exact .inl (List.eq_nil_of_length_eq_zero e2)
    · cases e1
      refine .inr ⟨g, rfl, fun v hb i x hx => ⟨?_⟩⟩
      have hl : Lies u (some ⟨g, 0, none⟩) (M.flatMap encE) := own_lies h2
      have := (hl.el (size := 6) (fun y _ => encE_len y) hx).past hb
      rwa [Nat.zero_add] at this
end Go.Proofs.YtileidbdmpeciaaGreat

namespace Go.Proofs.YtileidbdmpeciaaGreat
open Go.RowKit
set_option linter.unusedVariables false

set_option maxHeartbeats 1000000 in
theorem rcmp_any (a b : List Int) (ha : Ky a) (hb : Ky b) (w : World) :
    Calls Tryz.prog 114 #[kv a, kv b] w fun e w' => e = .returned (.int .i64 (lexC a b)) ∧ Below w.heap.size w w' := by
  have KA : Hid (Ky a) := ha
  have KB : Hid (Ky b) := hb
  have HA : Hid (KeyAt ((w.alloc (.cells (kcs a) 38)).alloc (.cells (kcs b) 38)) w.heap.size 0 a) := (KeyAt.made w 38 a ha).alloc _
  have HC : Hid (KeyAt ((w.alloc (.cells (kcs a) 38)).alloc (.cells (kcs b) 38)) (w.heap.size + 1) 0 b) := by
    have := KeyAt.made (w.alloc (.cells (kcs a) 38)) 38 b hb
    rw [World.size_alloc] at this
    exact this
  have HB : Hid (Below w.heap.size w ((w.alloc (.cells (kcs a) 38)).alloc (.cells (kcs b) 38))) := ((Below.refl _ _).alloc (Nat.le_refl _) _).alloc (by simp) _
  clear ha hb
  go_enter Tryz.func114, Tryz.ntmps114
  go_wp2
  generalize hU : (w.alloc (.cells (kcs a) 38)).alloc (.cells (kcs b) 38) = u at *
  clear hU
  go_loopw [5] (fun i wr => ∃ n m : Nat, n ≤ 16 ∧ i = .int .i64 n ∧ Hid (wr = u.drewN m) ∧ Hid (a.take n = b.take n)) (fun i _ => 16 - (intOf i).toNat)
  case atStart => exact ⟨0, 0, Nat.zero_le _, rfl, rfl, by show _ = _; rw [List.take_zero, List.take_zero]⟩
  case round =>
    obtain ⟨n, m, hn, rfl, HW, HT⟩ := hrel
    have hw : wr.heap = u.heap := by rw [HW.out]; rfl
    have BW : Hid (Below w.heap.size w wr) := by rw [HW.out]; exact below_dN HB.out m
    by_cases hlt : n < 16
    · have hc := (HA.out.same hw).cell0 n hlt
      have hd := (HC.out.same hw).cell0 n hlt
      have b1 := KA.out.at n
      have b2 := KB.out.at n
      have l1 : n < a.length := by rw [KA.out.len]; exact hlt
      have l2 : n < b.length := by rw [KB.out.len]; exact hlt
      obtain ⟨X, hX⟩ : ∃ X, X = a.getD n 0 := ⟨_, rfl⟩
      obtain ⟨Y, hY⟩ : ∃ Y, Y = b.getD n 0 := ⟨_, rfl⟩
      rw [← hX] at hc b1
      rw [← hY] at hd b2
      have h0 : (0 : Int) ≤ (n : Int) := by omega
      have h1 : (n : Int) < 16 := by omega
      clear hw
      by_cases x1 : X < Y
      · have HR : Hid (lexC a b = -1) := lexC_less n HT.out l1 l2 (by rw [← hX, ← hY]; exact x1)
        have d1 : decide (X < Y) = true := decide_eq_true x1
        clear hX hY l1 l2 x1
        go_wp2
        go_quiet (fail)
        go_wp2
        go_ret
        exact ⟨by rw [HR.out]; rfl, below_dN BW.out _⟩
      · have d1 : decide (X < Y) = false := decide_eq_false x1
        by_cases x2 : Y < X
        · have HR : Hid (lexC a b = 1) := lexC_more n HT.out l1 l2 (by rw [← hX, ← hY]; exact x2)
          have d2 : decide (Y < X) = true := decide_eq_true x2
          clear hX hY l1 l2 x1 x2
          go_wp2
          go_quiet (fail)
          go_wp2
          go_quiet (fail)
          go_wp2
          go_ret
          exact ⟨by rw [HR.out]; rfl, below_dN (below_dN BW.out _) _⟩
        · have d2 : decide (Y < X) = false := decide_eq_false x2
          have HT' : Hid (a.take (n + 1) = b.take (n + 1)) := take_next HT.out l1 l2 (by rw [← hX, ← hY]; omega)
          clear hX hY l1 l2 x1 x2
          go_wp2
          go_quiet (fail)
          go_wp2
          go_quiet (fail)
          go_wp2
          go_roundw
          case rel => exact ⟨n + 1, _, by omega, by go_num, by show _ = _; rw [HW.out]; exact World.drewN_drewN _ _ _, HT'⟩
          case measure => simp [intOf]; omega
    · obtain rfl : n = 16 := by omega
      have HR : Hid (lexC a b = 0) := by
        have h := HT.out
        have e1 : a.take 16 = a := List.take_of_length_le (by rw [KA.out.len]; exact Nat.le_refl _)
        have e2 : b.take 16 = b := List.take_of_length_le (by rw [KB.out.len]; exact Nat.le_refl _)
        rw [e1, e2] at h
        rw [h]; exact lexC_self b
      go_wp2
      go_ret
      exact ⟨by rw [HR.out]; rfl, BW.out⟩
end Go.Proofs.YtileidbdmpeciaaGreat

namespace Go.Proofs.YtileidbdmpeciaaGreat
open Go.RowKit
set_option linter.unusedVariables false

set_option maxHeartbeats 1000000 in
theorem rgood_any (k : List Int) (hk : Ky k) (w : World) :
    Calls Tryz.prog 74 #[kv k] w fun e w' => e = .returned (.bool (goodK k)) ∧ Below w.heap.size w w' := by
  have HK : Hid (Ky k) := hk
  have HA : Hid (KeyAt (w.alloc (.cells (kcs k) 38)) w.heap.size 0 k) := KeyAt.made w 38 k hk
  have HB : Hid (Below w.heap.size w (w.alloc (.cells (kcs k) 38))) := (Below.refl _ _).alloc (Nat.le_refl _) _
  clear hk
  go_enter Tryz.func74, Tryz.ntmps74
  go_wp2
  generalize hU : w.alloc (.cells (kcs k) 38) = u at *
  clear hU
  go_loop [3, 4] (fun en i => ∃ n : Nat, n ≤ 16 ∧ i = .int .i64 n ∧ en = .bool (decide ((txK k).length < n)) ∧ Hid (∀ z ∈ (k.take n).drop (txK k).length, z = 0)) (fun _ i => 16 - (intOf i).toNat)
  case atStart => exact ⟨0, Nat.zero_le _, rfl, rfl, by intro z hz; simp at hz⟩
  case round =>
    obtain ⟨n, hn, rfl, rfl, HZ⟩ := hrel
    by_cases hlt : n < 16
    · have hc := HA.out.cell0 n hlt
      have hb := HK.out.at n
      have hln : n < k.length := by rw [HK.out.len]; exact hlt
      obtain ⟨Z, hZ⟩ : ∃ Z, Z = k.getD n 0 := ⟨_, rfl⟩
      rw [← hZ] at hc hb
      have h0 : (0 : Int) ≤ (n : Int) := by omega
      have h1 : (n : Int) < 16 := by omega
      by_cases hz : Z = 0
      · subst hz
        have hz' : k.getD n 0 = 0 := hZ.symm
        have HZ' : Hid (∀ z ∈ (k.take (n + 1)).drop (txK k).length, z = 0) := take_drop_next HZ.out hln (fun _ => hz')
        have HE : Hid (decide ((txK k).length < n + 1) = true) := by
          have : ¬ n < (txK k).length := fun h => tx_none h hz'
          show _ = _
          simp; omega
        clear hZ hz' hln
        go_wp2
        go_round
        case rel => exact ⟨n + 1, by omega, by go_num, by rw [HE.out], HZ'⟩
        case measure => simp [intOf]; omega
      · have hzb : (Z == 0) = false := by simpa using hz
        have hz' : k.getD n 0 ≠ 0 := by rw [← hZ]; exact hz
        by_cases he : (txK k).length < n
        · have HG : Hid (goodK k = false) := good_none he hln hz'
          rw [decide_eq_true he]
          clear hz hz' hZ he hln
          go_wp2
          go_ret
          exact ⟨by rw [HG.out]; rfl, HB.out⟩
        · have hm := tx_more (by omega) hln hz'
          have HZ' : Hid (∀ z ∈ (k.take (n + 1)).drop (txK k).length, z = 0) := take_drop_next HZ.out hln (fun h => by omega)
          have HE : Hid (decide ((txK k).length < n + 1) = false) := by show _ = _; simp; omega
          rw [decide_eq_false he]
          clear hz hz' hZ he hm hln
          go_wp2
          go_round
          case rel => exact ⟨n + 1, by omega, by go_num, by rw [HE.out], HZ'⟩
          case measure => simp [intOf]; omega
    · obtain rfl : n = 16 := by omega
      have HG : Hid (goodK k = (k.getD 0 0 != 0)) := good_end HK.out HZ.out
      have hc := HA.out.cell0 0 (by omega)
      have hb := HK.out.at 0
      obtain ⟨Z, hZ⟩ : ∃ Z, Z = k.getD 0 0 := ⟨_, rfl⟩
      rw [← hZ] at hc hb HG
      clear hZ
      go_wp2
      go_ret
      exact ⟨by rw [HG.out]; rfl, HB.out⟩
/-- Three keys, each in a block of its own. -/
structure Three3 (w u : World) (k a b : List Int) : Prop where
  below : Below w.heap.size w u
  k : KeyAt u w.heap.size 0 k
  a : KeyAt u (w.heap.size + 1) 0 a
  b : KeyAt u (w.heap.size + 2) 0 b
theorem Three3.made (w : World) (T : TypeId) {k a b : List Int} (hk : Ky k) (ha : Ky a) (hb : Ky b) : Three3 w (((w.alloc (.cells (kcs k) T)).alloc (.cells (kcs a) T)).alloc (.cells (kcs b) T)) k a b := by
  have e1 := KeyAt.made w T k hk
  have e2 := KeyAt.made (w.alloc (.cells (kcs k) T)) T a ha
  have e3 := KeyAt.made ((w.alloc (.cells (kcs k) T)).alloc (.cells (kcs a) T)) T b hb
  rw [World.size_alloc] at e2
  rw [World.size_alloc, World.size_alloc] at e3
  exact ⟨(((Below.refl _ _).alloc (Nat.le_refl _) _).alloc (by simp) _).alloc (by simp; omega) _, (e1.alloc _).alloc _, e2.alloc _, e3⟩
theorem Three3.past {w u v : World} {k a b : List Int} (h : Three3 w u k a b) (hb : Below u.heap.size u v) : Three3 w v k a b :=
  ⟨h.below.trans (hb.mono h.below.size), h.k.past hb, h.a.past hb, h.b.past hb⟩
set_option maxHeartbeats 1000000 in
theorem rwithin_any (k a b : List Int) (hk : Ky k) (ha : Ky a) (hb : Ky b) (w : World) :
    Calls Tryz.prog 77 #[kv k, kv a, kv b] w fun e w' => e = .returned (.bool (withinK k a b)) ∧ Below w.heap.size w w' := by
  have KK : Hid (Ky k) := hk
  have KA : Hid (Ky a) := ha
  have KB : Hid (Ky b) := hb
  have C1 : Hid (∀ u, Calls Tryz.prog 114 #[kv k, kv a] u fun e w' => e = .returned (.int .i64 (lexC k a)) ∧ Below u.heap.size u w') := fun u => rcmp_any k a hk ha u
  have C2 : Hid (∀ u, Calls Tryz.prog 114 #[kv k, kv b] u fun e w' => e = .returned (.int .i64 (lexC k b)) ∧ Below u.heap.size u w') := fun u => rcmp_any k b hk hb u
  have H0 : Hid (Three3 w (((w.alloc (.cells (kcs k) 38)).alloc (.cells (kcs a) 38)).alloc (.cells (kcs b) 38)) k a b) := Three3.made w 38 hk ha hb
  have HQ : Hid (∀ u, (Op.equalIn 10000 38 (kv b) (kv zeroK)).run Tryz.prog u = .ok (decide (b = zeroK)) u) := fun u => eq_key u b zeroK hb zeroK_ky
  clear hk ha hb
  obtain ⟨X, hX⟩ : ∃ X, X = lexC k a := ⟨_, rfl⟩
  obtain ⟨Y, hY⟩ : ∃ Y, Y = lexC k b := ⟨_, rfl⟩
  have HX : Hid (X = lexC k a) := hX
  have HY : Hid (Y = lexC k b) := hY
  have HR : Hid (withinK k a b = (decide (0 ≤ X) && (decide (b = zeroK) || decide (Y < 0)))) := by rw [hX, hY]; rfl
  rw [← hX] at C1
  rw [← hY] at C2
  clear hX hY
  have hq := HQ.out
  rw [show (kv zeroK) = .agg #[.int .u8 0, .int .u8 0, .int .u8 0, .int .u8 0, .int .u8 0, .int .u8 0, .int .u8 0, .int .u8 0, .int .u8 0, .int .u8 0, .int .u8 0, .int .u8 0, .int .u8 0, .int .u8 0, .int .u8 0, .int .u8 0] from rfl] at hq
  clear HQ
  by_cases h1 : 0 ≤ X
  · have d1 : decide (0 ≤ X) = true := decide_eq_true h1
    by_cases h2 : b = zeroK
    · rw [decide_eq_true h2] at HR hq
      clear h2
      go_enter Tryz.func77, Tryz.ntmps77
      go_wp2_with (first | (have hgo := C1.out; clear hgo; refine wpList_load_key (by rfl) _ (by rfl) w.heap.size 0 (by rfl) k KK.out H0.out.k ?_) | (have hgo := C1.out; clear hgo; refine wpList_load_key (by rfl) _ (by rfl) (w.heap.size + 1) 0 (by rfl) a KA.out H0.out.a ?_) | (have hgo := C1.out; clear hgo; go_at_call 114; refine (C1.out _).mono ?_; rintro e w1 ⟨rfl, hb1⟩; have H1 : Hid (Three3 w w1 k a b) := H0.out.past hb1; clear hb1 C1) | (have hgo := H1.out; clear hgo; refine wpList_load_keyG (by rfl) _ (by rfl) (w.heap.size + 2) 0 (by rfl) b KB.out H1.out.b ?_))
      go_ret
      exact ⟨by rw [HR.out, d1]; rfl, H1.out.below⟩
    · rw [decide_eq_false h2] at HR hq
      clear h2
      go_enter Tryz.func77, Tryz.ntmps77
      go_wp2_with (first | (have hgo := C1.out; clear hgo; refine wpList_load_key (by rfl) _ (by rfl) w.heap.size 0 (by rfl) k KK.out H0.out.k ?_) | (have hgo := C1.out; clear hgo; refine wpList_load_key (by rfl) _ (by rfl) (w.heap.size + 1) 0 (by rfl) a KA.out H0.out.a ?_) | (have hgo := C1.out; clear hgo; go_at_call 114; refine (C1.out _).mono ?_; rintro e w1 ⟨rfl, hb1⟩; have H1 : Hid (Three3 w w1 k a b) := H0.out.past hb1; clear hb1 C1) | (have hgo := H1.out; clear hgo; refine wpList_load_keyG (by rfl) _ (by rfl) (w.heap.size + 2) 0 (by rfl) b KB.out H1.out.b ?_) | (have hgo := H1.out; clear hgo; refine wpList_load_keyG (by rfl) _ (by rfl) w.heap.size 0 (by rfl) k KK.out H1.out.k ?_) | (have hgo := H1.out; clear hgo; go_at_call 114; refine (C2.out _).mono ?_; rintro e w2 ⟨rfl, hb2⟩))
      go_ret
      exact ⟨by rw [HR.out, d1]; rfl, H1.out.below.trans (hb2.mono H1.out.below.size)⟩
  · have d1 : decide (0 ≤ X) = false := decide_eq_false h1
    go_enter Tryz.func77, Tryz.ntmps77
    go_wp2_with (first | (have hgo := C1.out; clear hgo; refine wpList_load_key (by rfl) _ (by rfl) w.heap.size 0 (by rfl) k KK.out H0.out.k ?_) | (have hgo := C1.out; clear hgo; refine wpList_load_key (by rfl) _ (by rfl) (w.heap.size + 1) 0 (by rfl) a KA.out H0.out.a ?_) | (have hgo := C1.out; clear hgo; go_at_call 114; refine (C1.out _).mono ?_; rintro e w1 ⟨rfl, hb1⟩; have H1 : Hid (Three3 w w1 k a b) := H0.out.past hb1; clear hb1 C1))
    go_ret
    exact ⟨by rw [HR.out, d1]; rfl, H1.out.below⟩
end Go.Proofs.YtileidbdmpeciaaGreat

