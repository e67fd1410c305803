/-
  One version more (hourglassref10: Store.Put).
-/
import Derived.Test.YtfaojmognbgnfaaRf
import Derived.Test.YtfaojmognbgnfaaVerSlice
import Derived.Test.YtfaojmognbgnfaaRegLast
namespace Go.Proofs.Ytfaojmognbgnfaa
open Go.RowKit
set_option linter.unusedVariables false

theorem info_verl (V : Ver) (h : Ky V.k) : (Try.prog.info? 89).map (·.size) = some (encV V).length := by rw [info_ver, enc_len h]
/-- The store's list has turned. -/
theorem StoreR.turn {w u : World} {B p : Nat} {L L' : List Ver} {a : Option Addr} {c n : Nat} (h : StoreR w B p L) (hb : Below w.heap.size w u) (hn : L'.length = n) (ho : u.ownsRow w.heap.size 89 20 (.slice a n c) n (L'.flatMap encV)) (hB : B ≤ w.heap.size) (hok : OkL L') (hf : n ≤ 1000000) :
    StoreR (u.setCell ⟨p, 0, none⟩ (.slice a n c)) B p L' ∧ Chg w (u.setCell ⟨p, 0, none⟩ (.slice a n c)) (fun k => k = p) := by
  subst hn
  obtain ⟨a0, c0, h1, _, _⟩ := h.list
  have hp := (hb.cell (p := ⟨p, 0, none⟩) h.lt).trans h1
  have hne : ∀ k, (Value.slice a L'.length c).ownBlock = some k → k ≠ p := fun k e => by have := (ho.lt k e).1; have := h.lt; omega
  refine ⟨⟨by rw [World.size_setCell]; exact Nat.lt_of_lt_of_le h.lt hb.size, h.lo, ⟨a, c, World.cell?_setCell_same _ _ _ hp, ?_, hne⟩, by rw [World.frozen?_setCell]; exact (hb.frozen (p := ⟨p, 0, none⟩) h.lt).trans h.free, hok, hf⟩, (Chg.of_below hb _).trans (Chg.set u ⟨p, 0, none⟩ _ (X := fun k => k = p) rfl) (fun _ _ x => x)⟩
  obtain ⟨hl, h0 | ⟨g, cap, cur, hv, hg, hh, r⟩⟩ := ho
  · exact ⟨hl, .inl h0⟩
  · refine ⟨hl, .inr ⟨g, cap, cur, hv, Nat.le_trans hB hg, ?_, r⟩⟩
    rw [Below.heap_setCell _ ⟨p, 0, none⟩ _ g (fun e => by have := h.lt; have e' : g = p := e; omega)]
    exact hh
theorem eq_st (u : World) (t n t' n' : Int) : (Op.equalIn 10000 28 (.agg #[.int .i64 t, .int .u8 n]) (.agg #[.int .i64 t', .int .u8 n'])).run Try.prog u = .ok (decide (t = t' ∧ n = n')) u := by
  go_simp
  by_cases h1 : t = t' <;> by_cases h2 : n = n' <;> simp [h1, h2]
theorem own_lower10 {w : World} {base base' n e size : Nat} {v : Value} {xs : List Value} (h : w.ownsRow base e size v n xs) (hb : base' ≤ base) : w.ownsRow base' e size v n xs :=
  ⟨h.1, h.2.elim Or.inl (fun ⟨g, cap, cur, hv, hg, r⟩ => Or.inr ⟨g, cap, cur, hv, Nat.le_trans hb hg, r⟩)⟩
theorem clash_none {L : List Ver} {V : Ver} (h : putR L V = kMany L V.k) : clashV L V = false := by
  unfold clashV
  rw [List.getElem?_eq_none (by rw [chain_len, h]; exact Nat.le_refl _)]
theorem clash_some {L : List Ver} {V X : Ver} (h : putR L V < kMany L V.k) (hX : L[kFrom L V.k + putR L V]? = some X) : clashV L V = decide (X.t = V.t ∧ X.n = V.n) := by
  unfold clashV
  rw [chain_at L V.k _ h, hX]
theorem ins_ok {L : List Ver} {V : Ver} (h : OkL L) (hV : VerOk V) (k : Nat) : OkL (L.take k ++ V :: L.drop k) := fun X hX => by
  rcases List.mem_append.1 hX with e | e
  · exact h X (List.mem_of_mem_take e)
  · rcases List.mem_cons.1 e with rfl | e
    · exact hV
    · exact h X (List.mem_of_mem_drop e)
end Go.Proofs.Ytfaojmognbgnfaa
