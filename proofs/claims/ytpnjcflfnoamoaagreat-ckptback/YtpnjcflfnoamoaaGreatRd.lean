/-
  The document's own reader of bytes: what each of its calls reads, and what it leaves.
  The document's own reader: Num, Byte, Bytes, End, for every reader.
  What the document reads next: a flag, a stamp, a text, a count, a key.
  What the document reads next: a stamp.
-/
import Derived.Test.YtpnjcflfnoamoaaGreatAu25
import Derived.Test.YtpnjcflfnoamoaaGreatAu20
import Derived.Test.YtpnjcflfnoamoaaGreatBase
import Derived.Test.YtpnjcflfnoamoaaGreatAu27
import Derived.Deep.QuietTactic
import Derived.BigQuiet
import Derived.Test.YtpnjcflfnoamoaaGreatAu24
namespace Go.Proofs.YtpnjcflfnoamoaaGreat
open Go.RowKit
set_option linter.unusedVariables false

/-! ### Pieces of a list of bytes -/
/-- Where a[k:] lies. -/
def cutA (a : Option Addr) (cap k : Nat) : Option Addr := if cap = k then a else a.map (·.add (k * 1))
theorem cells5 : Tryz.prog.cellsOf 5 = 1 := by kernel_rfl
theorem elemB2 : Tryz.prog.elem 23 = 5 := by kernel_rfl
theorem slice_from (w : World) (a : Option Addr) (len cap k : Nat) (x : Int) (hx : x = k) (hk : k ≤ len) :
    (Instr.slice 23 (.slice a len cap) (some (.int .i64 x)) none none).run Tryz.prog w = .ok (.slice (cutA a cap k) (len - k) (cap - k)) w := by
  subst hx
  obtain ⟨i0, hi, _⟩ := info_parts info5
  rw [run_slice_l w 23 _ len cap (by rw [elemB2]; exact Tryz.underlying23) .i64 (k : Int) (by omega) (by omega), elemB2, run_sizeOf w hi]
  simp [sliced, cutA, cells5]
theorem Row.cut {w : World} {a : Option Addr} {zs : List Int} (h : Row w a zs) (cap k : Nat) (hc : zs.length ≤ cap) : Row w (cutA a cap k) (zs.drop k) := by
  refine ⟨fun z hz => h.bytes z (List.mem_of_mem_drop hz), ?_⟩
  unfold cutA
  by_cases hk : cap = k
  · left; exact List.drop_eq_nil_of_le (by omega)
  · rw [if_neg hk]
    rcases h.cells with rfl | ⟨b, off, rfl, hx⟩
    · left; simp
    · right
      refine ⟨b, off + k, by simp [add_plain], fun j hj => ?_⟩
      simp at hj
      rw [Nat.add_assoc, hx (k + j) (by omega)]
      simp [List.getD]
theorem Row.upto {w : World} {a : Option Addr} {zs : List Int} (h : Row w a zs) (n : Nat) : Row w a (zs.take n) := by
  refine ⟨fun z hz => h.bytes z (List.mem_of_mem_take hz), ?_⟩
  rcases h.cells with rfl | ⟨b, off, rfl, hx⟩
  · left; simp
  · right
    refine ⟨b, off, rfl, fun j hj => ?_⟩
    rw [List.length_take] at hj
    rw [hx j (by omega)]
    simp [List.getD, show j < n by omega]
theorem Row.chg {w w' : World} {a : Option Addr} {zs : List Int} {X : Foot} (h : Row w a zs) (hc : Chg w w' X) (hX : zs ≠ [] → ∀ b o s, a = some ⟨b, o, s⟩ → ¬ X b) : Row w' a zs := by
  refine ⟨h.bytes, ?_⟩
  by_cases hz : zs = []
  · exact .inl hz
  rcases h.cells with rfl | ⟨b, off, rfl, hx⟩
  · exact .inl rfl
  · refine .inr ⟨b, off, rfl, fun j hj => ?_⟩
    have h1 := hx j hj
    have hb := hc.block b (lt_of_cell h1) (hX hz b off none rfl)
    rw [← h1]
    show World.cell? w' _ = World.cell? w _
    unfold World.cell?
    rw [hb]
theorem getF_bd (f : Nat) : ∀ (X : Int) (k : Nat) (zs : List Int), f + k = 10 → (k ≤ 9 → 0 ≤ X ∧ X < 2 ^ (7 * k)) → (∀ z ∈ zs, 0 ≤ z ∧ z ≤ 255) → 0 ≤ (Pl.getF f X k zs).1 ∧ (Pl.getF f X k zs).1 ≤ 18446744073709551615 := by
  induction f with
  | zero => intro X k zs _ _ _; simp [Pl.getF]
  | succ f ih =>
    intro X k zs hf hX hz
    cases zs with
    | nil => simp [Pl.getF]
    | cons c r =>
      have hc := hz c (by simp)
      obtain ⟨x0, x1⟩ := hX (by omega)
      by_cases h : c < 128
      · by_cases hg : Pl.goodB c k = true
        · rw [Pl.get_end h hg]
          have hp : (0 : Int) < 2 ^ (7 * k) := Int.pow_pos (by omega)
          have h0 : 0 ≤ c * 2 ^ (7 * k) := Int.mul_nonneg hc.1 (by omega)
          refine ⟨by show 0 ≤ X + c * 2 ^ (7 * k); omega, ?_⟩
          show X + c * 2 ^ (7 * k) ≤ _
          by_cases h9 : k = 9
          · subst h9
            have : c = 1 := by unfold Pl.goodB at hg; simp at hg; exact hg.2
            subst this
            have e9 : (2 : Int) ^ (7 * 9) = 9223372036854775808 := by decide
            rw [e9] at x1 ⊢; omega
          · have h1 := group_lt X c k x1 (by omega)
            have h2 := pow7 k (by omega)
            rw [pow_succ7] at h1
            omega
        · rw [Pl.get_bad h (by simpa using hg)]; simp
      · rw [Pl.get_more (by omega)]
        refine ih _ _ r (by omega) (fun hk => ?_) (fun z hz' => hz z (by simp [hz']))
        have hp : (0 : Int) < 2 ^ (7 * k) := Int.pow_pos (by omega)
        have h0 : 0 ≤ c % 128 * 2 ^ (7 * k) := Int.mul_nonneg (by omega) (by omega)
        exact ⟨by omega, group_lt X _ k x1 (by omega)⟩
theorem getI_bd {zs : List Int} (h : ∀ z ∈ zs, 0 ≤ z ∧ z ≤ 255) : 0 ≤ (Pl.getI zs).1 ∧ (Pl.getI zs).1 ≤ 18446744073709551615 := getF_bd 10 0 0 zs rfl (fun _ => by simp) h
/-- A number at the head of a list: none is there, or it is read, and what is behind it is left. -/
theorem num_cases (zs : List Int) (h : ∀ z ∈ zs, 0 ≤ z ∧ z ≤ 255) : ((Pl.getI zs).2.1 = 0 ∧ numP zs = none) ∨ ∃ (V : Int) (N : Nat), (Pl.getI zs).1 = V ∧ (Pl.getI zs).2.1 = N ∧ 1 ≤ N ∧ N ≤ zs.length ∧ 0 ≤ V ∧ V ≤ 18446744073709551615 ∧ numP zs = some (V, zs.drop N) := by
  rcases get_cases zs with e | ⟨V, N, e, hN⟩
  · left; rw [e]; exact ⟨rfl, by unfold numP; rw [e]; rfl⟩
  · right
    have hb := getI_bd h
    have hx := getF_ext 10 0 0 zs [] (by show (Pl.getI zs).2.2 = 0; rw [e])
    have hx3 : (Pl.getI zs).2.1 ≤ ((0 : Nat) : Int) + zs.length := hx.2.2
    rw [e] at hb hx3
    refine ⟨V, N.toNat, by rw [e], by rw [e]; show N = _; omega, by omega, by simp at hx3; omega, hb.1, hb.2, ?_⟩
    unfold numP
    rw [e]
    rfl

/-! ### The reader -/
structure Rd (w : World) (g : Nat) (a : Option Addr) (cap : Nat) (zs : List Int) (k : Nat) (b : Bool) : Prop where
  c0 : w.cell? ⟨g, 0, none⟩ = some (.slice a zs.length cap)
  c1 : w.cell? ⟨g, 1, none⟩ = some (.int .i64 k)
  c2 : w.cell? ⟨g, 2, none⟩ = some (.bool b)
  free : ∀ i, w.frozen? ⟨g, i, none⟩ = false
  row : Row w a zs
  far : zs ≠ [] → ∀ b o s, a = some ⟨b, o, s⟩ → b ≠ g
  len : k ≤ zs.length
  few : zs.length ≤ cap
  most : zs.length ≤ 1099511627776
/-- What is left to read; none: it is bad. -/
def stR (zs : List Int) (k : Nat) (b : Bool) : Option (List Int) := if b then none else some (zs.drop k)
theorem Rd.made (w : World) (T : TypeId) {a : Option Addr} {cap : Nat} {zs : List Int} (h : Row w a zs) (hc : zs.length ≤ cap) (hm : zs.length ≤ 1099511627776) : Rd (w.alloc (.cells #[.slice a zs.length cap, .int .i64 0, .bool false] T)) w.heap.size a cap zs 0 false := by
  refine ⟨by rw [World.cell?_alloc_new]; rfl, by rw [World.cell?_alloc_new]; rfl, by rw [World.cell?_alloc_new]; rfl, fun i => World.frozen?_alloc_new _ _ _ _, h.below ((Below.refl _ _).alloc (Nat.le_refl _) _) (Nat.le_refl _), fun hz b o s e => ?_, Nat.zero_le _, hc, hm⟩
  rcases h.cells with e0 | ⟨b', off, e1, hx⟩
  · exact absurd e0 hz
  · rw [e] at e1
    injection e1 with e1
    injection e1 with e1 e2 e3
    subst e1
    have hl : 0 < zs.length := by cases zs with | nil => exact absurd rfl hz | cons x r => simp
    have := lt_of_cell (hx 0 hl)
    simp at this
    omega
theorem Rd.drew {w : World} {g : Nat} {a : Option Addr} {cap : Nat} {zs : List Int} {k : Nat} {b : Bool} (h : Rd w g a cap zs k b) : Rd w.drew g a cap zs k b := ⟨h.c0, h.c1, h.c2, h.free, ⟨h.row.bytes, h.row.cells⟩, h.far, h.len, h.few, h.most⟩
theorem Rd.past {w w' : World} {g : Nat} {a : Option Addr} {cap : Nat} {zs : List Int} {k : Nat} {b : Bool} (h : Rd w g a cap zs k b) (hb : Below w.heap.size w w') : Rd w' g a cap zs k b :=
  have hl := lt_of_cell h.c0
  ⟨(hb.cell (p := ⟨g, 0, none⟩) hl).trans h.c0, (hb.cell (p := ⟨g, 1, none⟩) hl).trans h.c1, (hb.cell (p := ⟨g, 2, none⟩) hl).trans h.c2, fun i => (hb.frozen (p := ⟨g, i, none⟩) hl).trans (h.free i), h.row.below hb (Nat.le_refl _), h.far, h.len, h.few, h.most⟩
theorem Rd.drewN {w : World} {g : Nat} {a : Option Addr} {cap : Nat} {zs : List Int} {k : Nat} {b : Bool} (h : Rd w g a cap zs k b) (n : Nat) : Rd (w.drewN n) g a cap zs k b := h.past (below_dN (Below.refl _ _) n)
theorem set_off (u : World) (b i j : Nat) (v : Value) (h : j ≠ i) : (u.setCell ⟨b, i, none⟩ v).cell? ⟨b, j, none⟩ = u.cell? ⟨b, j, none⟩ := World.cell?_setCell_other _ _ _ _ (by intro e; injection e with _ e2; omega)
theorem Rd.bad {w : World} {g : Nat} {a : Option Addr} {cap : Nat} {zs : List Int} {k : Nat} {b : Bool} (h : Rd w g a cap zs k b) : Rd (w.setCell ⟨g, 2, none⟩ (.bool true)) g a cap zs k true ∧ Chg w (w.setCell ⟨g, 2, none⟩ (.bool true)) (fun j => j = g) :=
  have hc : Chg w (w.setCell ⟨g, 2, none⟩ (.bool true)) (fun j => j = g) := Chg.set w ⟨g, 2, none⟩ _ rfl
  ⟨⟨(set_off _ _ _ _ _ (by omega)).trans h.c0, (set_off _ _ _ _ _ (by omega)).trans h.c1, World.cell?_setCell_same _ _ _ h.c2, fun i => by rw [World.frozen?_setCell]; exact h.free i, h.row.chg hc h.far, h.far, h.len, h.few, h.most⟩, hc⟩
theorem Rd.on {w : World} {g : Nat} {a : Option Addr} {cap : Nat} {zs : List Int} {k : Nat} {b : Bool} (h : Rd w g a cap zs k b) (k' : Nat) (hk : k' ≤ zs.length) : Rd (w.setCell ⟨g, 1, none⟩ (.int .i64 k')) g a cap zs k' b ∧ Chg w (w.setCell ⟨g, 1, none⟩ (.int .i64 k')) (fun j => j = g) :=
  have hc : Chg w (w.setCell ⟨g, 1, none⟩ (.int .i64 k')) (fun j => j = g) := Chg.set w ⟨g, 1, none⟩ _ rfl
  ⟨⟨(set_off _ _ _ _ _ (by omega)).trans h.c0, World.cell?_setCell_same _ _ _ h.c1, (set_off _ _ _ _ _ (by omega)).trans h.c2, fun i => by rw [World.frozen?_setCell]; exact h.free i, h.row.chg hc h.far, h.far, hk, h.few, h.most⟩, hc⟩
/-- What a call that reads by p leaves. -/
def Rds {α : Type} (p : Pr α) (o o' : Option (List Int)) (v : α) : Prop := match o.bind p with
  | none => o' = none
  | some x => v = x.1 ∧ o' = some x.2
theorem Rds.cases {α : Type} {p : Pr α} {zs : List Int} {o' : Option (List Int)} {v : α} (h : Rds p (some zs) o' v) : (p zs = none ∧ o' = none) ∨ ∃ r, p zs = some (v, r) ∧ o' = some r := by
  unfold Rds at h
  rw [Option.bind_some] at h
  cases e : p zs with
  | none => rw [e] at h; exact .inl ⟨rfl, h⟩
  | some x => rw [e] at h; obtain ⟨h1, h2⟩ := h; exact .inr ⟨x.2, by rw [h1], h2⟩
theorem Rds.of_bad {α : Type} (p : Pr α) (v : α) : Rds p none none v := rfl
theorem Rds.no {α : Type} {p : Pr α} {zs : List Int} (v : α) (h : p zs = none) : Rds p (some zs) none v := by show match p zs with | none => _ | some x => _; rw [h]
theorem Rds.yes {α : Type} {p : Pr α} {zs r : List Int} {v : α} (h : p zs = some (v, r)) : Rds p (some zs) (some r) v := by show match p zs with | none => _ | some x => _; rw [h]; exact ⟨rfl, rfl⟩
theorem Rds.seq {α β : Type} {p : Pr α} {f : α → Pr β} {o o1 o2 : Option (List Int)} {a : α} {b : β} (h1 : Rds p o o1 a) (h2 : Rds (f a) o1 o2 b) : Rds (seqP p f) o o2 b := by
  cases o with
  | none => cases (show o1 = none from h1); exact h2
  | some zs =>
    cases e : p zs with
    | none =>
      have h1' : match p zs with | none => o1 = none | some x => a = x.1 ∧ o1 = some x.2 := h1
      rw [e] at h1'
      cases (show o1 = none from h1')
      cases (show o2 = none from h2)
      exact .no b (seq_none e)
    | some x =>
      obtain ⟨y, r⟩ := x
      have h1' : match p zs with | none => o1 = none | some x => a = x.1 ∧ o1 = some x.2 := h1
      rw [e] at h1'
      obtain ⟨rfl, rfl⟩ := h1'
      show match seqP p f zs with | none => _ | some x => _
      rw [seq_some e]
      exact h2
theorem Rds.ret {α : Type} (a : α) (o : Option (List Int)) : Rds (retP a) o o a := by cases o with
  | none => rfl
  | some zs => exact .yes rfl
theorem Rds.non {α : Type} (o : Option (List Int)) (v : α) : Rds (noneP (α := α)) o none v := by cases o with
  | none => rfl
  | some zs => exact .no v rfl
end Go.Proofs.YtpnjcflfnoamoaaGreat

namespace Go.Proofs.YtpnjcflfnoamoaaGreat
open Go.RowKit
set_option linter.unusedVariables false

end Go.Proofs.YtpnjcflfnoamoaaGreat

namespace Go.Proofs.YtpnjcflfnoamoaaGreat
open Go.RowKit
set_option linter.unusedVariables false

theorem Rds.bool {o o1 o2 : Option (List Int)} {c : Int} (h : Rds byteP o o1 c) (h2 : (1 < c ∧ o2 = none) ∨ (¬ 1 < c ∧ o2 = o1)) : Rds boolP o o2 (decide (c = 1)) := by
  refine h.seq ?_
  rcases h2 with ⟨hc, rfl⟩ | ⟨hc, rfl⟩
  · rw [if_pos hc]; exact .non _ _
  · rw [if_neg hc]; exact .ret _ _
theorem Rds.count {o o1 o2 : Option (List Int)} {c v n : Int} (h : Rds numP o o1 c) (h2 : (n < c ∧ o2 = none) ∨ (¬ n < c ∧ o2 = o1 ∧ v = c)) : Rds (countP n) o o2 v := by
  refine h.seq ?_
  rcases h2 with ⟨hc, rfl⟩ | ⟨hc, rfl, rfl⟩
  · rw [if_pos hc]; exact .non _ _
  · rw [if_neg hc]; exact .ret _ _
end Go.Proofs.YtpnjcflfnoamoaaGreat

namespace Go.Proofs.YtpnjcflfnoamoaaGreat
open Go.RowKit
set_option linter.unusedVariables false

theorem cell_of_block {w w' : World} {q : Nat} (h : w'.heap[q]? = w.heap[q]?) (i : Nat) : w'.cell? ⟨q, i, none⟩ = w.cell? ⟨q, i, none⟩ ∧ w'.frozen? ⟨q, i, none⟩ = w.frozen? ⟨q, i, none⟩ := by
  refine ⟨?_, ?_⟩
  · unfold World.cell?; rw [h]
  · unfold World.frozen?; rw [h]
/-- A stamp for the answer, made ahead of what turns the reader alone. -/
theorem st_kept {w w1 w2 : World} {g : Nat} (hg : g < w.heap.size) (hc : Chg (w.alloc (.cells #[.int .i64 0, .int .u8 0] 42)) w1 (fun j => j = g)) (hb : Below w1.heap.size w1 w2) :
    w2.cell? ⟨w.heap.size, 0, none⟩ = some (.int .i64 0) ∧ w2.cell? ⟨w.heap.size, 1, none⟩ = some (.int .u8 0) ∧ w2.frozen? ⟨w.heap.size, 0, none⟩ = false ∧ w2.frozen? ⟨w.heap.size, 1, none⟩ = false ∧ w.heap.size < w1.heap.size ∧ w.heap.size < w2.heap.size := by
  have hs : (w.alloc (.cells #[.int .i64 0, .int .u8 0] 42)).heap.size = w.heap.size + 1 := by simp
  have h1 : w.heap.size < w1.heap.size := by have := hc.size; omega
  have hb1 := (hb.block w.heap.size h1).trans (hc.block w.heap.size (by omega) (by omega))
  refine ⟨?_, ?_, ?_, ?_, h1, by have := hb.size; omega⟩
  · rw [(cell_of_block hb1 0).1, World.cell?_alloc_new]; rfl
  · rw [(cell_of_block hb1 1).1, World.cell?_alloc_new]; rfl
  · rw [(cell_of_block hb1 0).2]; exact World.frozen?_alloc_new _ _ _ _
  · rw [(cell_of_block hb1 1).2]; exact World.frozen?_alloc_new _ _ _ _
/-- A world in which, but for the reader and what is new, nothing has turned, and the reader is as in another world. -/
theorem Rd.as {w u u' : World} {g : Nat} {a : Option Addr} {cap : Nat} {zs : List Int} {k k' : Nat} {b b' : Bool} (h : Rd w g a cap zs k b) (hc : Chg w u' (fun j => j = g)) (h1 : Rd u g a cap zs k' b') (hb : u'.heap[g]? = u.heap[g]?) : Rd u' g a cap zs k' b' :=
  ⟨(cell_of_block hb 0).1.trans h1.c0, (cell_of_block hb 1).1.trans h1.c1, (cell_of_block hb 2).1.trans h1.c2, fun i => (cell_of_block hb i).2.trans (h1.free i), h.row.chg hc h.far, h.far, h1.len, h.few, h.most⟩
theorem chg_two (u : World) (q : Nat) (x y : Value) (o : Obj) : Chg u (((u.setCell ⟨q, 0, none⟩ x).setCell ⟨q, 1, none⟩ y).alloc o) (fun j => j = q) :=
  ((Chg.set (X := fun j => j = q) u ⟨q, 0, none⟩ x rfl).trans (Chg.set (X := fun j => j = q) _ ⟨q, 1, none⟩ y rfl) (fun _ _ x => x)).alloc o
theorem info_stp : (Tryz.prog.info? 42).map (·.size) = some 2 := by kernel_rfl
theorem results_stp {fn : Func} {c : Tmp} (h : fn.results = #[.cell c 42]) (tmps : Array Value) (w : World) (b : Nat) (t n : Int) (hp : tmps.getD c undef = .pointer (some ⟨b, 0, none⟩)) (h0 : w.cell? ⟨b, 0, none⟩ = some (.int .i64 t)) (h1 : w.cell? ⟨b, 1, none⟩ = some (.int .u8 n)) :
    (results fn tmps).run Tryz.prog w = .ok (.agg #[.int .i64 t, .int .u8 n]) w := by
  have hl := run_loadVar_mid (P := Tryz.prog) w b 0 42 [.int .i64 t, .int .u8 n] _ (fun j v hv => by
    have : j = 0 ∨ j = 1 := by
      have := (List.getElem?_eq_some_iff.1 hv).1
      simp at this; omega
    rcases this with rfl | rfl
    · injection hv with hv; rw [← hv]; exact h0
    · injection hv with hv; rw [← hv]; exact h1) Tryz.underlying42 rfl (by rw [info_stp]; rfl)
  unfold results
  rw [h]
  simp only [List.mapM_toArray, List.mapM_cons, List.mapM_nil, hp]
  simp [asAddr, hl]
theorem two_cells {u : World} {q : Nat} {x y x0 y0 : Value} (h0 : u.cell? ⟨q, 0, none⟩ = some x0) (h1 : u.cell? ⟨q, 1, none⟩ = some y0) (o : Obj) : (((u.setCell ⟨q, 0, none⟩ x).setCell ⟨q, 1, none⟩ y).alloc o).cell? ⟨q, 0, none⟩ = some x ∧ (((u.setCell ⟨q, 0, none⟩ x).setCell ⟨q, 1, none⟩ y).alloc o).cell? ⟨q, 1, none⟩ = some y := by
  have hl := lt_of_cell h0
  have hl2 : (⟨q, 0, none⟩ : Addr).block < ((u.setCell ⟨q, 0, none⟩ x).setCell ⟨q, 1, none⟩ y).heap.size := by rw [World.size_setCell, World.size_setCell]; exact hl
  refine ⟨?_, ?_⟩
  · rw [World.cell?_alloc_lt _ _ _ hl2, set_off _ _ _ _ _ (by omega)]; exact World.cell?_setCell_same _ _ _ h0
  · rw [World.cell?_alloc_lt _ _ ⟨q, 1, none⟩ hl2]; exact World.cell?_setCell_same _ _ _ ((set_off _ _ _ _ _ (by omega)).trans h1)
theorem Rds.stamp {o o1 o2 : Option (List Int)} {v t n : Int} (h : Rds numP o o1 v) (h2 : (¬ v < 9223372036854775808 ∧ o2 = none) ∨ (v < 9223372036854775808 ∧ o2 = o1 ∧ t = v / 256 ∧ n = v % 256)) : Rds stampP o o2 (t, n) := by
  refine h.seq ?_
  rcases h2 with ⟨hc, rfl⟩ | ⟨hc, rfl, rfl, rfl⟩
  · rw [if_neg hc]; exact .non _ _
  · rw [if_pos hc]; exact .ret _ _
end Go.Proofs.YtpnjcflfnoamoaaGreat

