/-
  Versions that are loaded, stored and answered whole.
-/
import Derived.Test.YtfaojmognbgnfaaStoreMem
import Derived.Deep.MidRow
namespace Go.Proofs.Ytfaojmognbgnfaa
open Go.RowKit
set_option linter.unusedVariables false

theorem info_ver : (Try.prog.info? 89).map (·.size) = some 20 := by kernel_rfl
/-- One version in memory of the call's own. -/
structure VerMine (w : World) (b o : Nat) (V : Ver) : Prop where
  at_ : VerAt w b o V
  free : ∀ i, i < 20 → w.frozen? ⟨b, o + i, none⟩ = false
  key : Ky V.k
theorem VerAt.lt {w : World} {b o : Nat} {V : Ver} (h : VerAt w b o V) (hk : Ky V.k) : b < w.heap.size := cell_lt (h.cells hk).1
theorem VerMine.made (w : World) (T : TypeId) (V : Ver) (hk : Ky V.k) : VerMine (w.alloc (.cells (encV V).toArray T)) w.heap.size 0 V :=
  ⟨⟨lies_made w (encV V).toArray T⟩, fun i hi => World.frozen?_alloc_new _ _ _ _, hk⟩
theorem VerMine.past {w w' : World} {b o : Nat} {V : Ver} (h : VerMine w b o V) (hb : Below w.heap.size w w') : VerMine w' b o V :=
  ⟨h.at_.past hb, fun i hi => by rw [hb.frozen (p := ⟨b, o + i, none⟩) (h.at_.lt h.key)]; exact h.free i hi, h.key⟩
theorem VerAt.range {w : World} {b o : Nat} {V : Ver} (h : VerAt w b o V) : w.rangeAt b o (encV V) := h.lies.range
theorem VerMine.there {w : World} {b o : Nat} {V : Ver} (h : VerMine w b o V) : w.there b o 20 := fun j hj => by
  have hl := enc_len h.key
  obtain ⟨u, hu⟩ : ∃ u, (encV V)[j]? = some u := ⟨_, List.getElem?_eq_getElem (by omega)⟩
  exact ⟨by rw [h.at_.lies.at j u hu]; rfl, h.free j hj⟩
theorem VerMine.store {w : World} {b o : Nat} {V V' : Ver} (h : VerMine w b o V) (hk : Ky V'.k) : VerMine (w.setCells b o (encV V')) b o V' := by
  have ht := h.there
  rw [← enc_len hk] at ht
  exact ⟨⟨lies_of (World.rangeAt_setCells_same w b o (encV V') ht)⟩, fun i hi => by rw [World.frozen?_setCells]; exact h.free i hi, hk⟩
theorem enc_all (V : Ver) : (encV V).toArray.all (·.oneCell') = true := all_oneCell_toArray (enc_one V)
theorem wpList_load_ver (d : Tmp) {ops : Array Oper} {rest : List Oper} {op : Oper} {a : Act} {w : World} {Q : Exit → Act → World → Prop} (hd : op.dst = some d) (hw : Region.wanted op (yielded ops a.tmps) = true) (x : Operand) (ho : op.op = .load 89 x)
    (b o : Nat) (hx : a.eval x = .pointer (some ⟨b, o, none⟩)) (V : Ver) (hk : Ky V.k) (hat : VerAt w b o V)
    (h : wpList Try.prog ops Q rest (a.put op.dst (vv V)) w) : wpList Try.prog ops Q (op :: rest) a w :=
  wpList_step fun K hK => by
    rw [if_pos hw]
    exact wp_load_mid 89 x ho b o hx (encV V) _ hat.range Try.underlying89 rfl (by rw [info_ver, enc_len hk]) (hK _ _ h)
theorem wpList_store_ver (d : Operand) {ops : Array Oper} {rest : List Oper} {op : Oper} {a : Act} {w : World} {Q : Exit → Act → World → Prop} (hgd : op.guard = none) (y : Operand) (ho : op.op = .store 89 d y)
    (b o : Nat) (V V' : Ver) (hx : a.eval d = .pointer (some ⟨b, o, none⟩)) (hy : a.eval y = vv V') (hk : Ky V'.k) (hat : VerMine w b o V)
    (h : ∀ u, u = w.setCells b o (encV V') → wpList Try.prog ops Q rest (a.put op.dst undef) u) : wpList Try.prog ops Q (op :: rest) a w := by
  have hl : (encV V').toArray.size = 20 := by simp [enc_len hk]
  refine wpList_store_mid hgd 89 d y ho b o (encV V').toArray hx hy (by rw [hl]; exact hat.there) (by rw [info_ver, hl]) (enc_all V') ?_
  exact h _ rfl
theorem results_ver {fn : Func} {c t : Tmp} (h : fn.results = #[.cell c 89, .tmp t]) (tmps : Array Value) (w : World) (b o : Nat) (V : Ver) (hp : tmps.getD c undef = .pointer (some ⟨b, o, none⟩)) (hk : Ky V.k) (hat : VerAt w b o V) :
    (results fn tmps).run Try.prog w = .ok (.tuple #[vv V, tmps.getD t undef]) w := by
  have hl := run_loadVar_mid (P := Try.prog) w b o 89 (encV V) _ hat.range Try.underlying89 rfl (by rw [info_ver, enc_len hk])
  unfold results
  rw [h]
  simp only [List.mapM_toArray, List.mapM_cons, List.mapM_nil, hp]
  simp [asAddr, hl]
def zeroV : Ver := ⟨zeroK, 0, 0, [], false⟩
theorem zeroV_ky : Ky zeroV.k := zeroK_ky
theorem zeroV_cells : (encV zeroV).toArray = #[.int .u8 0, .int .u8 0, .int .u8 0, .int .u8 0, .int .u8 0, .int .u8 0, .int .u8 0, .int .u8 0, .int .u8 0, .int .u8 0, .int .u8 0, .int .u8 0, .int .u8 0, .int .u8 0, .int .u8 0, .int .u8 0, .int .i64 0, .int .u8 0, .string ⟨#[]⟩, .bool false] := rfl
end Go.Proofs.Ytfaojmognbgnfaa
