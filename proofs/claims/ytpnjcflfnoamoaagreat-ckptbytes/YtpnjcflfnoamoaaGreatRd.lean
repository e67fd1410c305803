/-
  The document's own reader of bytes: what each of its calls reads, and what it leaves.
  The document's own reader: Num, Byte, Bytes, End, for every reader.
  What the document reads next: a flag, a stamp, a text, a count, a key.
  What the document reads next: a stamp.
-/
import Derived.Test.YtpnjcflfnoamoaaGreatAu38
import Derived.Test.YtpnjcflfnoamoaaGreatBase
import Derived.Test.YtpnjcflfnoamoaaGreatAu35
import Derived.Deep.QuietTactic
import Derived.BigQuiet
import Derived.Test.YtpnjcflfnoamoaaGreatAu23
namespace Go.Proofs.YtpnjcflfnoamoaaGreat
open Go.RowKit
set_option linter.unusedVariables false

/-! ### Pieces of a list of bytes -/
/-- Where a[k:] lies. -/
def cutA (a : Option Addr) (cap k : Nat) : Option Addr := if cap = k then a else a.map (·.add (k * 1))
theorem cells5 : Tryz.prog.cellsOf 5 = 1 := by kernel_rfl
theorem elemB2 : Tryz.prog.elem 23 = 5 := by kernel_rfl
theorem slice_from (w : World) (a : Option Addr) (len cap k : Nat) (x : Int) (hx : x = k) (hk : k ≤ len) :
    (Instr.slice 23 (.slice a len cap) (some (.int .i64 x)) none none).run Tryz.prog w = .ok (.slice (cutA a cap k) (len - k) (cap - k)) w := by
  subst hx
  obtain ⟨i0, hi, _⟩ := info_parts info5
  rw [run_slice_l w 23 _ len cap (by rw [elemB2]; exact Tryz.underlying23) .i64 (k : Int) (by omega) (by omega), elemB2, run_sizeOf w hi]
  simp [sliced, cutA, cells5]
theorem slice_mid (w : World) (a : Option Addr) (len cap k n : Nat) (x y : Int) (hx : x = k) (hy : y = k + n) (hk : k + n ≤ cap) :
    (Instr.slice 23 (.slice a len cap) (some (.int .i64 x)) (some (.int .i64 y)) none).run Tryz.prog w = .ok (.slice (cutA a cap k) n (cap - k)) w := by
  subst hx; subst hy
  obtain ⟨i0, hi, _⟩ := info_parts info5
  rw [run_slice_lh w 23 _ len cap (by rw [elemB2]; exact Tryz.underlying23) .i64 .i64 (k : Int) ((k : Int) + n) (by omega) (by omega) (by omega), elemB2, run_sizeOf w hi]
  have e2 : ((k : Int) + n).toNat - k = n := by omega
  simp [sliced, cutA, cells5, e2]
theorem Row.cut {w : World} {a : Option Addr} {zs : List Int} (h : Row w a zs) (cap k : Nat) (hc : zs.length ≤ cap) : Row w (cutA a cap k) (zs.drop k) := by
  refine ⟨fun z hz => h.bytes z (List.mem_of_mem_drop hz), ?_⟩
  unfold cutA
  by_cases hk : cap = k
  · left; exact List.drop_eq_nil_of_le (by omega)
  · rw [if_neg hk]
    rcases h.cells with rfl | ⟨b, off, rfl, hx⟩
    · left; simp
    · right
      refine ⟨b, off + k, by simp [add_plain], fun j hj => ?_⟩
      simp at hj
      rw [Nat.add_assoc, hx (k + j) (by omega)]
      simp [List.getD]
theorem Row.upto {w : World} {a : Option Addr} {zs : List Int} (h : Row w a zs) (n : Nat) : Row w a (zs.take n) := by
  refine ⟨fun z hz => h.bytes z (List.mem_of_mem_take hz), ?_⟩
  rcases h.cells with rfl | ⟨b, off, rfl, hx⟩
  · left; simp
  · right
    refine ⟨b, off, rfl, fun j hj => ?_⟩
    rw [List.length_take] at hj
    rw [hx j (by omega)]
    simp [List.getD, show j < n by omega]
theorem Row.chg {w w' : World} {a : Option Addr} {zs : List Int} {X : Foot} (h : Row w a zs) (hc : Chg w w' X) (hX : zs ≠ [] → ∀ b o s, a = some ⟨b, o, s⟩ → ¬ X b) : Row w' a zs := by
  refine ⟨h.bytes, ?_⟩
  by_cases hz : zs = []
  · exact .inl hz
  rcases h.cells with rfl | ⟨b, off, rfl, hx⟩
  · exact .inl rfl
  · refine .inr ⟨b, off, rfl, fun j hj => ?_⟩
    have h1 := hx j hj
    have hb := hc.block b (lt_of_cell h1) (hX hz b off none rfl)
    rw [← h1]
    show World.cell? w' _ = World.cell? w _
    unfold World.cell?
    rw [hb]
theorem getF_bd (f : Nat) : ∀ (X : Int) (k : Nat) (zs : List Int), f + k = 10 → (k ≤ 9 → 0 ≤ X ∧ X < 2 ^ (7 * k)) → (∀ z ∈ zs, 0 ≤ z ∧ z ≤ 255) → 0 ≤ (Pl.getF f X k zs).1 ∧ (Pl.getF f X k zs).1 ≤ 18446744073709551615 := by
  induction f with
  | zero => intro X k zs _ _ _; simp [Pl.getF]
  | succ f ih =>
    intro X k zs hf hX hz
    cases zs with
    | nil => simp [Pl.getF]
    | cons c r =>
      have hc := hz c (by simp)
      obtain ⟨x0, x1⟩ := hX (by omega)
      by_cases h : c < 128
      · by_cases hg : Pl.goodB c k = true
        · rw [Pl.get_end h hg]
          have hp : (0 : Int) < 2 ^ (7 * k) := Int.pow_pos (by omega)
          have h0 : 0 ≤ c * 2 ^ (7 * k) := Int.mul_nonneg hc.1 (by omega)
          refine ⟨by show 0 ≤ X + c * 2 ^ (7 * k); omega, ?_⟩
          show X + c * 2 ^ (7 * k) ≤ _
          by_cases h9 : k = 9
          · subst h9
            have : c = 1 := by unfold Pl.goodB at hg; simp at hg; exact hg.2
            subst this
            have e9 : (2 : Int) ^ (7 * 9) = 9223372036854775808 := by decide
            rw [e9] at x1 ⊢; omega
          · have h1 := group_lt X c k x1 (by omega)
            have h2 := pow7 k (by omega)
            rw [pow_succ7] at h1
            omega
        · rw [Pl.get_bad h (by simpa using hg)]; simp
      · rw [Pl.get_more (by omega)]
        refine ih _ _ r (by omega) (fun hk => ?_) (fun z hz' => hz z (by simp [hz']))
        have hp : (0 : Int) < 2 ^ (7 * k) := Int.pow_pos (by omega)
        have h0 : 0 ≤ c % 128 * 2 ^ (7 * k) := Int.mul_nonneg (by omega) (by omega)
        exact ⟨by omega, group_lt X _ k x1 (by omega)⟩
theorem getI_bd {zs : List Int} (h : ∀ z ∈ zs, 0 ≤ z ∧ z ≤ 255) : 0 ≤ (Pl.getI zs).1 ∧ (Pl.getI zs).1 ≤ 18446744073709551615 := getF_bd 10 0 0 zs rfl (fun _ => by simp) h
/-- A number at the head of a list: none is there, or it is read, and what is behind it is left. -/
theorem num_cases (zs : List Int) (h : ∀ z ∈ zs, 0 ≤ z ∧ z ≤ 255) : ((Pl.getI zs).2.1 = 0 ∧ numP zs = none) ∨ ∃ (V : Int) (N : Nat), (Pl.getI zs).1 = V ∧ (Pl.getI zs).2.1 = N ∧ 1 ≤ N ∧ N ≤ zs.length ∧ 0 ≤ V ∧ V ≤ 18446744073709551615 ∧ numP zs = some (V, zs.drop N) := by
  rcases get_cases zs with e | ⟨V, N, e, hN⟩
  · left; rw [e]; exact ⟨rfl, by unfold numP; rw [e]; rfl⟩
  · right
    have hb := getI_bd h
    have hx := getF_ext 10 0 0 zs [] (by show (Pl.getI zs).2.2 = 0; rw [e])
    have hx3 : (Pl.getI zs).2.1 ≤ ((0 : Nat) : Int) + zs.length := hx.2.2
    rw [e] at hb hx3
    refine ⟨V, N.toNat, by rw [e], by rw [e]; show N = _; omega, by omega, by simp at hx3; omega, hb.1, hb.2, ?_⟩
    unfold numP
    rw [e]
    rfl

/-! ### The reader -/
structure Rd (w : World) (g : Nat) (a : Option Addr) (cap : Nat) (zs : List Int) (k : Nat) (b : Bool) : Prop where
  c0 : w.cell? ⟨g, 0, none⟩ = some (.slice a zs.length cap)
  c1 : w.cell? ⟨g, 1, none⟩ = some (.int .i64 k)
  c2 : w.cell? ⟨g, 2, none⟩ = some (.bool b)
  free : ∀ i, w.frozen? ⟨g, i, none⟩ = false
  row : Row w a zs
  far : zs ≠ [] → ∀ b o s, a = some ⟨b, o, s⟩ → b ≠ g
  len : k ≤ zs.length
  few : zs.length ≤ cap
  most : zs.length ≤ 1099511627776
/-- What is left to read; none: it is bad. -/
def stR (zs : List Int) (k : Nat) (b : Bool) : Option (List Int) := if b then none else some (zs.drop k)
theorem Rd.made (w : World) (T : TypeId) {a : Option Addr} {cap : Nat} {zs : List Int} (h : Row w a zs) (hc : zs.length ≤ cap) (hm : zs.length ≤ 1099511627776) : Rd (w.alloc (.cells #[.slice a zs.length cap, .int .i64 0, .bool false] T)) w.heap.size a cap zs 0 false := by
  refine ⟨by rw [World.cell?_alloc_new]; rfl, by rw [World.cell?_alloc_new]; rfl, by rw [World.cell?_alloc_new]; rfl, fun i => World.frozen?_alloc_new _ _ _ _, h.below ((Below.refl _ _).alloc (Nat.le_refl _) _) (Nat.le_refl _), fun hz b o s e => ?_, Nat.zero_le _, hc, hm⟩
  rcases h.cells with e0 | ⟨b', off, e1, hx⟩
  · exact absurd e0 hz
  · rw [e] at e1
    injection e1 with e1
    injection e1 with e1 e2 e3
    subst e1
    have hl : 0 < zs.length := by cases zs with | nil => exact absurd rfl hz | cons x r => simp
    have := lt_of_cell (hx 0 hl)
    simp at this
    omega
theorem Rd.drew {w : World} {g : Nat} {a : Option Addr} {cap : Nat} {zs : List Int} {k : Nat} {b : Bool} (h : Rd w g a cap zs k b) : Rd w.drew g a cap zs k b := ⟨h.c0, h.c1, h.c2, h.free, ⟨h.row.bytes, h.row.cells⟩, h.far, h.len, h.few, h.most⟩
theorem Rd.past {w w' : World} {g : Nat} {a : Option Addr} {cap : Nat} {zs : List Int} {k : Nat} {b : Bool} (h : Rd w g a cap zs k b) (hb : Below w.heap.size w w') : Rd w' g a cap zs k b :=
  have hl := lt_of_cell h.c0
  ⟨(hb.cell (p := ⟨g, 0, none⟩) hl).trans h.c0, (hb.cell (p := ⟨g, 1, none⟩) hl).trans h.c1, (hb.cell (p := ⟨g, 2, none⟩) hl).trans h.c2, fun i => (hb.frozen (p := ⟨g, i, none⟩) hl).trans (h.free i), h.row.below hb (Nat.le_refl _), h.far, h.len, h.few, h.most⟩
theorem Rd.drewN {w : World} {g : Nat} {a : Option Addr} {cap : Nat} {zs : List Int} {k : Nat} {b : Bool} (h : Rd w g a cap zs k b) (n : Nat) : Rd (w.drewN n) g a cap zs k b := h.past (below_dN (Below.refl _ _) n)
theorem chg_dN (w : World) (n : Nat) (X : Foot) : Chg w (w.drewN n) X := Chg.of_below (below_dN (Below.refl _ _) n) X
theorem set_off (u : World) (b i j : Nat) (v : Value) (h : j ≠ i) : (u.setCell ⟨b, i, none⟩ v).cell? ⟨b, j, none⟩ = u.cell? ⟨b, j, none⟩ := World.cell?_setCell_other _ _ _ _ (by intro e; injection e with _ e2; omega)
theorem Rd.bad {w : World} {g : Nat} {a : Option Addr} {cap : Nat} {zs : List Int} {k : Nat} {b : Bool} (h : Rd w g a cap zs k b) : Rd (w.setCell ⟨g, 2, none⟩ (.bool true)) g a cap zs k true ∧ Chg w (w.setCell ⟨g, 2, none⟩ (.bool true)) (fun j => j = g) :=
  have hc : Chg w (w.setCell ⟨g, 2, none⟩ (.bool true)) (fun j => j = g) := Chg.set w ⟨g, 2, none⟩ _ rfl
  ⟨⟨(set_off _ _ _ _ _ (by omega)).trans h.c0, (set_off _ _ _ _ _ (by omega)).trans h.c1, World.cell?_setCell_same _ _ _ h.c2, fun i => by rw [World.frozen?_setCell]; exact h.free i, h.row.chg hc h.far, h.far, h.len, h.few, h.most⟩, hc⟩
theorem Rd.on {w : World} {g : Nat} {a : Option Addr} {cap : Nat} {zs : List Int} {k : Nat} {b : Bool} (h : Rd w g a cap zs k b) (k' : Nat) (hk : k' ≤ zs.length) : Rd (w.setCell ⟨g, 1, none⟩ (.int .i64 k')) g a cap zs k' b ∧ Chg w (w.setCell ⟨g, 1, none⟩ (.int .i64 k')) (fun j => j = g) :=
  have hc : Chg w (w.setCell ⟨g, 1, none⟩ (.int .i64 k')) (fun j => j = g) := Chg.set w ⟨g, 1, none⟩ _ rfl
  ⟨⟨(set_off _ _ _ _ _ (by omega)).trans h.c0, World.cell?_setCell_same _ _ _ h.c1, (set_off _ _ _ _ _ (by omega)).trans h.c2, fun i => by rw [World.frozen?_setCell]; exact h.free i, h.row.chg hc h.far, h.far, hk, h.few, h.most⟩, hc⟩
theorem Rd.badN {w : World} {g : Nat} {a : Option Addr} {cap : Nat} {zs : List Int} {k : Nat} {b : Bool} (h : Rd w g a cap zs k b) (n : Nat) : Rd ((w.drewN n).setCell ⟨g, 2, none⟩ (.bool true)) g a cap zs k true ∧ Chg w ((w.drewN n).setCell ⟨g, 2, none⟩ (.bool true)) (fun j => j = g) :=
  ⟨(h.drewN n).bad.1, (chg_dN w n _).trans (h.drewN n).bad.2 (fun _ _ x => x)⟩
theorem Rd.onN {w : World} {g : Nat} {a : Option Addr} {cap : Nat} {zs : List Int} {k : Nat} {b : Bool} (h : Rd w g a cap zs k b) (n k' : Nat) (x : Int) (hx : x = k') (hk : k' ≤ zs.length) : Rd ((w.drewN n).setCell ⟨g, 1, none⟩ (.int .i64 x)) g a cap zs k' b ∧ Chg w ((w.drewN n).setCell ⟨g, 1, none⟩ (.int .i64 x)) (fun j => j = g) := by
  subst hx
  exact ⟨((h.drewN n).on k' hk).1, (chg_dN w n _).trans ((h.drewN n).on k' hk).2 (fun _ _ x => x)⟩
/-- What a call that reads by p leaves. -/
def Rds {α : Type} (p : Pr α) (o o' : Option (List Int)) (v : α) : Prop := match o.bind p with
  | none => o' = none
  | some x => v = x.1 ∧ o' = some x.2
theorem Rds.cases {α : Type} {p : Pr α} {zs : List Int} {o' : Option (List Int)} {v : α} (h : Rds p (some zs) o' v) : (p zs = none ∧ o' = none) ∨ ∃ r, p zs = some (v, r) ∧ o' = some r := by
  unfold Rds at h
  rw [Option.bind_some] at h
  cases e : p zs with
  | none => rw [e] at h; exact .inl ⟨rfl, h⟩
  | some x => rw [e] at h; obtain ⟨h1, h2⟩ := h; exact .inr ⟨x.2, by rw [h1], h2⟩
theorem Rds.of_bad {α : Type} (p : Pr α) (v : α) : Rds p none none v := rfl
theorem Rds.no {α : Type} {p : Pr α} {zs : List Int} (v : α) (h : p zs = none) : Rds p (some zs) none v := by show match p zs with | none => _ | some x => _; rw [h]
theorem Rds.yes {α : Type} {p : Pr α} {zs r : List Int} {v : α} (h : p zs = some (v, r)) : Rds p (some zs) (some r) v := by show match p zs with | none => _ | some x => _; rw [h]; exact ⟨rfl, rfl⟩
theorem Rds.seq {α β : Type} {p : Pr α} {f : α → Pr β} {o o1 o2 : Option (List Int)} {a : α} {b : β} (h1 : Rds p o o1 a) (h2 : Rds (f a) o1 o2 b) : Rds (seqP p f) o o2 b := by
  cases o with
  | none => cases (show o1 = none from h1); exact h2
  | some zs =>
    cases e : p zs with
    | none =>
      have h1' : match p zs with | none => o1 = none | some x => a = x.1 ∧ o1 = some x.2 := h1
      rw [e] at h1'
      cases (show o1 = none from h1')
      cases (show o2 = none from h2)
      exact .no b (seq_none e)
    | some x =>
      obtain ⟨y, r⟩ := x
      have h1' : match p zs with | none => o1 = none | some x => a = x.1 ∧ o1 = some x.2 := h1
      rw [e] at h1'
      obtain ⟨rfl, rfl⟩ := h1'
      show match seqP p f zs with | none => _ | some x => _
      rw [seq_some e]
      exact h2
theorem Rds.ret {α : Type} (a : α) (o : Option (List Int)) : Rds (retP a) o o a := by cases o with
  | none => rfl
  | some zs => exact .yes rfl
theorem Rds.non {α : Type} (o : Option (List Int)) (v : α) : Rds (noneP (α := α)) o none v := by cases o with
  | none => rfl
  | some zs => exact .no v rfl
end Go.Proofs.YtpnjcflfnoamoaaGreat

namespace Go.Proofs.YtpnjcflfnoamoaaGreat
open Go.RowKit
set_option linter.unusedVariables false

theorem rrnum_any (g : Nat) (a : Option Addr) (cap : Nat) (zs : List Int) (k : Nat) (b : Bool) (w : World) (h : Rd w g a cap zs k b) :
    Calls Tryz.prog 70 #[.pointer (some ⟨g, 0, none⟩)] w fun e w' => ∃ (v : Int) (k' : Nat) (b' : Bool), e = .returned (.int .u64 v) ∧ 0 ≤ v ∧ v ≤ 18446744073709551615 ∧ Rd w' g a cap zs k' b' ∧ Chg w w' (fun j => j = g) ∧ Rds numP (stR zs k b) (stR zs k' b') v := by
  have H : Hid (Rd w g a cap zs k b) := h
  have h0 := h.c0
  have h1 := h.c1
  have h2 := h.c2
  cases b with
  | true =>
    clear h
    go_enter Tryz.func70, Tryz.ntmps70
    go_wp2
    go_returns
    exact ⟨0, k, true, rfl, by omega, by omega, H.out, Chg.refl _ _, .of_bad _ _⟩
  | false =>
    have hlen := h.len
    have hmx : zs.length ≤ 140737488351232 := by have := h.most; omega
    have f1 := h.free 1
    have f2 := h.free 2
    obtain ⟨a', ha'⟩ : ∃ a', a' = cutA a cap k := ⟨_, rfl⟩
    obtain ⟨len, hl⟩ : ∃ len, len = zs.length := ⟨_, rfl⟩
    have hsl : ∀ w', (Instr.slice 23 (.slice a len cap) (some (.int .i64 (k : Int))) none none).run Tryz.prog w' = .ok (.slice a' (len - k) (cap - k)) w' := fun w' => by rw [ha']; exact slice_from w' a len cap k _ rfl (by omega)
    have HR : Hid (Row w a' (zs.drop k)) := by rw [ha']; exact h.row.cut cap k h.few
    have HG : Hid (∀ n, Calls Tryz.prog 96 #[.slice a' (len - k) (cap - k)] (w.drewN n) fun e w'' => e = .returned (.tuple #[.int .u64 (Pl.getI (zs.drop k)).1, .int .i64 (Pl.getI (zs.drop k)).2.1]) ∧ w'' = w.drewN n) := fun n => by
      have c := rget_any a' (cap - k) (zs.drop k) (w.drewN n) (HR.out.below (below_dN (Below.refl _ _) n) (Nat.le_refl _)) (by simp; omega)
      rw [List.length_drop, ← hl] at c
      exact c
    rw [← hl] at h0
    have hbs : ∀ z ∈ zs.drop k, 0 ≤ z ∧ z ≤ 255 := fun z hz => h.row.bytes z (List.mem_of_mem_drop hz)
    rcases num_cases (zs.drop k) hbs with ⟨e1, e2⟩ | ⟨V, N, e1, e2, n1, n2, v0, v1, e3⟩
    · have E2 : Hid (numP (zs.drop k) = none) := e2
      obtain ⟨V, hV⟩ : ∃ V, (Pl.getI (zs.drop k)).1 = V := ⟨_, rfl⟩
      rw [e1, hV] at HG
      clear h hbs e1 e2 hV ha' hl HR
      go_enter Tryz.func70, Tryz.ntmps70
      go_wp2
      go_quiet ((go_at_call 96; exact Calls.quiet_of_same (HG.out _)))
      go_wp2
      go_returns
      exact ⟨0, k, true, rfl, by omega, by omega, (H.out.badN _).1, (H.out.badN _).2, .no _ E2.out⟩
    · have E3 : Hid (numP (zs.drop k) = some (V, zs.drop (k + N))) := by rw [← List.drop_drop]; exact e3
      have hkn : k + N ≤ zs.length := by rw [List.length_drop] at n2; omega
      rw [e1, e2] at HG
      have hn0 : ((N : Int) == 0) = false := beq_eq_false_iff_ne.2 (by omega)
      clear h hbs e1 e2 e3 ha' HR hl n2
      go_enter Tryz.func70, Tryz.ntmps70
      go_wp2
      go_quiet ((go_at_call 96; exact Calls.quiet_of_same (HG.out _)))
      go_wp2
      go_returns
      have R := fun n x (hx : x = ((k + N : Nat) : Int)) => H.out.onN n (k + N) x hx hkn
      exact ⟨V, k + N, false, rfl, v0, v1, (R _ _ (by simp)).1, (R _ _ (by simp)).2, .yes E3.out⟩
theorem rrbyte_any (g : Nat) (a : Option Addr) (cap : Nat) (zs : List Int) (k : Nat) (b : Bool) (w : World) (h : Rd w g a cap zs k b) :
    Calls Tryz.prog 73 #[.pointer (some ⟨g, 0, none⟩)] w fun e w' => ∃ (v : Int) (k' : Nat) (b' : Bool), e = .returned (.int .u8 v) ∧ 0 ≤ v ∧ v ≤ 255 ∧ Rd w' g a cap zs k' b' ∧ Chg w w' (fun j => j = g) ∧ Rds byteP (stR zs k b) (stR zs k' b') v := by
  have H : Hid (Rd w g a cap zs k b) := h
  have h0 := h.c0
  have h1 := h.c1
  have h2 := h.c2
  have f1 := h.free 1
  have f2 := h.free 2
  cases b with
  | true =>
    clear h
    go_enter Tryz.func73, Tryz.ntmps73
    go_wp2
    go_quiet (fail)
    go_wp2
    go_returns
    exact ⟨0, k, true, rfl, by omega, by omega, (H.out.badN _).1, (H.out.badN _).2, .of_bad _ _⟩
  | false =>
    have hlen := h.len
    have hmx : zs.length ≤ 140737488351232 := by have := h.most; omega
    by_cases hk : k = zs.length
    · have E : Hid (byteP (zs.drop k) = none) := by show _ = _; rw [hk, List.drop_length]; rfl
      obtain ⟨len, hl⟩ : ∃ len, len = zs.length := ⟨_, rfl⟩
      rw [← hl] at h0 hk
      subst hk
      clear h hlen hmx hl
      go_enter Tryz.func73, Tryz.ntmps73
      go_wp2
      go_quiet (fail)
      go_wp2
      go_returns
      exact ⟨0, k, true, rfl, by omega, by omega, (H.out.badN _).1, (H.out.badN _).2, .no _ E.out⟩
    · have hlt : k < zs.length := by omega
      have E : Hid (byteP (zs.drop k) = some (zs[k]?.getD 0, zs.drop (k + 1))) := by show _ = _; rw [drop_at zs k hlt]; rfl
      have hbd := at_byte h.row.bytes k
      obtain ⟨bk, off, rfl, hc⟩ : ∃ bk off, a = some ⟨bk, off, none⟩ ∧ ∀ j, j < zs.length → w.cell? ⟨bk, off + j, none⟩ = some (.int .u8 (zs.getD j 0)) := by
        rcases h.row.cells with e | ⟨bk, off, e, hc⟩
        · rw [e] at hlt; simp at hlt
        · exact ⟨bk, off, e, hc⟩
      have hck : w.cell? ⟨bk, off + k, none⟩ = some (.int .u8 (zs[k]?.getD 0)) := hc k hlt
      have hne : bk ≠ g := h.far (fun e => by rw [e] at hlt; simp at hlt) bk off none rfl
      have HC : Hid (∀ n v, ((w.drewN n).setCell ⟨g, 1, none⟩ v).cell? ⟨bk, off + k, none⟩ = some (.int .u8 (zs[k]?.getD 0))) := fun n v => by
        rw [World.cell?_setCell_other _ _ _ _ (by intro e; injection e with e1 _; exact hne e1.symm)]; exact hck
      have HO : Hid (∀ n x, x = ((k + 1 : Nat) : Int) → Rd ((w.drewN n).setCell ⟨g, 1, none⟩ (.int .i64 x)) g (some ⟨bk, off, none⟩) cap zs (k + 1) false ∧ Chg w ((w.drewN n).setCell ⟨g, 1, none⟩ (.int .i64 x)) (fun j => j = g)) := fun n x hx => h.onN n (k + 1) x hx (by omega)
      have hk1 : (k : Int) + 1 - 1 = k := by omega
      obtain ⟨len, hl⟩ : ∃ len, len = zs.length := ⟨_, rfl⟩
      rw [← hl] at h0 hlt hmx
      clear h hlen hk hl hc hck hne
      go_enter Tryz.func73, Tryz.ntmps73
      go_wp2
      go_quiet (fail)
      go_wp2
      have q := HC.out
      go_quiet (fail)
      go_wp2
      go_returns
      have R := HO.out
      exact ⟨_, k + 1, false, rfl, hbd.1, hbd.2, (R _ _ (by simp)).1.drewN _, (R _ _ (by simp)).2.trans (chg_dN _ _ _) (fun _ _ x => x), .yes E.out⟩
theorem rrbytes_any (g : Nat) (a : Option Addr) (cap : Nat) (zs : List Int) (k : Nat) (b : Bool) (w : World) (n : Int) (hn0 : 0 ≤ n) (hn1 : n ≤ 18446744073709551615) (h : Rd w g a cap zs k b) :
    Calls Tryz.prog 71 #[.pointer (some ⟨g, 0, none⟩), .int .u64 n] w fun e w' => ∃ (l : List Int) (k' : Nat) (b' : Bool), e = .returned (.string (strOfNums l)) ∧ (∀ z ∈ l, 0 ≤ z ∧ z ≤ 255) ∧ l.length ≤ zs.length ∧ Rd w' g a cap zs k' b' ∧ Chg w w' (fun j => j = g) ∧ Rds (bytesP n) (stR zs k b) (stR zs k' b') l ∧ (b' = true → l = []) := by
  have H : Hid (Rd w g a cap zs k b) := h
  have h0 := h.c0
  have h1 := h.c1
  have h2 := h.c2
  have f1 := h.free 1
  have f2 := h.free 2
  cases b with
  | true =>
    clear h
    go_enter Tryz.func71, Tryz.ntmps71
    go_wp2
    go_quiet (fail)
    go_wp2
    go_returns
    exact ⟨[], k, true, rfl, by simp, by simp, (H.out.badN _).1, (H.out.badN _).2, .of_bad _ _, fun _ => rfl⟩
  | false =>
    have hlen := h.len
    have hmx : zs.length ≤ 1099511627776 := h.most
    have hfew := h.few
    obtain ⟨len, hl⟩ : ∃ len, len = zs.length := ⟨_, rfl⟩
    rw [← hl] at h0 hlen hmx hfew
    have hw : IntKind.u64.wrap ((len : Int) - k) = (len : Int) - k := by rw [IntKind.wrap_u64]; omega
    have hw2 : ((len : Int) - k) % 18446744073709551616 = (len : Int) - k := by omega
    by_cases hk : (len : Int) - k < n
    · have E : Hid (bytesP n (zs.drop k) = none) := by unfold bytesP; exact if_pos (by rw [List.length_drop]; omega)
      clear h hl hfew
      go_enter Tryz.func71, Tryz.ntmps71
      go_wp2
      go_quiet (fail)
      go_wp2
      go_returns
      exact ⟨[], k, true, rfl, by simp, by simp, (H.out.badN _).1, (H.out.badN _).2, .no _ E.out, fun _ => rfl⟩
    · obtain ⟨m, rfl⟩ : ∃ m : Nat, n = m := ⟨n.toNat, by omega⟩
      have hkm : k + m ≤ len := by omega
      have E : Hid (bytesP m (zs.drop k) = some ((zs.drop k).take m, zs.drop (k + m))) := by
        unfold bytesP; rw [if_neg (by rw [List.length_drop]; omega), Int.toNat_natCast, List.drop_drop]; rfl
      have HB : Hid (∀ z ∈ (zs.drop k).take m, 0 ≤ z ∧ z ≤ 255) := fun z hz => h.row.bytes z (List.mem_of_mem_drop (List.mem_of_mem_take hz))
      have HLL : Hid (((zs.drop k).take m).length ≤ zs.length) := by show _ ≤ _; rw [List.length_take, List.length_drop]; omega
      obtain ⟨a', ha'⟩ : ∃ a', a' = cutA a cap k := ⟨_, rfl⟩
      have hsl : ∀ w', (Instr.slice 23 (.slice a len cap) (some (.int .i64 (k : Int))) (some (.int .i64 ((k : Int) + m))) none).run Tryz.prog w' = .ok (.slice a' m (cap - k)) w' := fun w' => by rw [ha']; exact slice_mid w' a len cap k m _ _ rfl rfl (by omega)
      have hcv : ∀ q, (convert 23 9 (.slice a' m (cap - k))).run Tryz.prog (w.drewN q) = .ok (.string (strOfNums ((zs.drop k).take m))) (w.drewN q) := fun q => by
        rw [ha']
        exact str_at (by rw [List.length_take, List.length_drop]; omega) (((h.row.cut cap k h.few).upto m).below (below_dN (Below.refl _ _) q) (Nat.le_refl _)) _
      have HO : Hid (∀ q x, x = ((k + m : Nat) : Int) → Rd ((w.drewN q).setCell ⟨g, 1, none⟩ (.int .i64 x)) g a cap zs (k + m) false ∧ Chg w ((w.drewN q).setCell ⟨g, 1, none⟩ (.int .i64 x)) (fun j => j = g)) := fun q x hx => h.onN q (k + m) x hx (by omega)
      have hm1 : wrap64 (m : Int) = m := by unfold wrap64; omega
      clear h ha' hl
      go_enter Tryz.func71, Tryz.ntmps71
      go_wp2
      go_quiet (fail)
      go_wp2
      go_quiet (fail)
      go_wp2
      go_returns
      have R := HO.out
      exact ⟨_, k + m, false, rfl, HB.out, HLL.out, (R _ _ (by simp)).1, (R _ _ (by simp)).2, .yes E.out, fun e => by cases e⟩
theorem rrend_any (g : Nat) (a : Option Addr) (cap : Nat) (zs : List Int) (k : Nat) (b : Bool) (w : World) (h : Rd w g a cap zs k b) :
    Calls Tryz.prog 44 #[.pointer (some ⟨g, 0, none⟩)] w fun e w' => e = .returned (.bool (decide (stR zs k b = some []))) ∧ ∃ q, w' = w.drewN q := by
  have h0 := h.c0
  have h1 := h.c1
  have h2 := h.c2
  have hlen := h.len
  have hmx := h.most
  cases b with
  | true =>
    have E : Hid (decide (stR zs k true = some []) = false) := decide_eq_false (by unfold stR; simp)
    clear h
    go_enter Tryz.func44, Tryz.ntmps44
    go_wp2
    go_quiet (fail)
    go_wp2
    go_returns
    exact ⟨by rw [E.out]; rfl, _, rfl⟩
  | false =>
    by_cases hk : k = zs.length
    · have E : Hid (decide (stR zs k false = some []) = true) := decide_eq_true (by unfold stR; rw [hk]; simp)
      obtain ⟨len, hl⟩ : ∃ len, len = zs.length := ⟨_, rfl⟩
      rw [← hl] at h0 hk
      subst hk
      clear h hlen hmx hl
      go_enter Tryz.func44, Tryz.ntmps44
      go_wp2
      go_quiet (fail)
      go_wp2
      go_returns
      exact ⟨by rw [E.out]; rfl, _, rfl⟩
    · have E : Hid (decide (stR zs k false = some []) = false) := decide_eq_false (by unfold stR; simp; omega)
      obtain ⟨len, hl⟩ : ∃ len, len = zs.length := ⟨_, rfl⟩
      rw [← hl] at h0 hk hlen
      have hk2 : ((k : Int) == (len : Int)) = false := beq_eq_false_iff_ne.2 (by omega)
      clear h hlen hmx hl
      go_enter Tryz.func44, Tryz.ntmps44
      go_wp2
      go_quiet (fail)
      go_wp2
      go_returns
      exact ⟨by rw [E.out]; rfl, _, rfl⟩
end Go.Proofs.YtpnjcflfnoamoaaGreat

namespace Go.Proofs.YtpnjcflfnoamoaaGreat
open Go.RowKit
set_option linter.unusedVariables false

theorem Rds.bool {o o1 o2 : Option (List Int)} {c : Int} (h : Rds byteP o o1 c) (h2 : (1 < c ∧ o2 = none) ∨ (¬ 1 < c ∧ o2 = o1)) : Rds boolP o o2 (decide (c = 1)) := by
  refine h.seq ?_
  rcases h2 with ⟨hc, rfl⟩ | ⟨hc, rfl⟩
  · rw [if_pos hc]; exact .non _ _
  · rw [if_neg hc]; exact .ret _ _
theorem Rds.count {o o1 o2 : Option (List Int)} {c v n : Int} (h : Rds numP o o1 c) (h2 : (n < c ∧ o2 = none) ∨ (¬ n < c ∧ o2 = o1 ∧ v = c)) : Rds (countP n) o o2 v := by
  refine h.seq ?_
  rcases h2 with ⟨hc, rfl⟩ | ⟨hc, rfl, rfl⟩
  · rw [if_pos hc]; exact .non _ _
  · rw [if_neg hc]; exact .ret _ _
theorem rbool14_any (g : Nat) (a : Option Addr) (cap : Nat) (zs : List Int) (k : Nat) (b : Bool) (w : World) (h : Rd w g a cap zs k b) :
    Calls Tryz.prog 40 #[.pointer (some ⟨g, 0, none⟩)] w fun e w' => ∃ (v : Bool) (k' : Nat) (b' : Bool), e = .returned (.bool v) ∧ Rd w' g a cap zs k' b' ∧ Chg w w' (fun j => j = g) ∧ Rds boolP (stR zs k b) (stR zs k' b') v := by
  have H : Hid (Rd w g a cap zs k b) := h
  clear h
  go_enter Tryz.func40, Tryz.ntmps40
  go_wp2_with (first | (go_at_call 73; refine (rrbyte_any g a cap zs k b _ H.out).mono ?_; rintro e w1 ⟨v, k1, b1, rfl, v0, v1, R1, C1, D1⟩; have c2 := R1.c2; have f2 := R1.free 2; have HR1 : Hid (Rd w1 g a cap zs k1 b1) := R1; have HC1 : Hid (Chg w w1 (fun j => j = g)) := C1; have HD1 : Hid (Rds byteP (stR zs k b) (stR zs k1 b1) v) := D1; clear R1 C1 D1))
  · go_returns
    exact ⟨v == 1, k1, true, rfl, HR1.out.bad.1, HC1.out.trans HR1.out.bad.2 (fun _ _ x => x), HD1.out.bool (.inl ⟨by assumption, rfl⟩)⟩
  · go_returns
    exact ⟨v == 1, k1, b1, rfl, HR1.out, HC1.out, HD1.out.bool (.inr ⟨by omega, rfl⟩)⟩
theorem rcount14_any (g : Nat) (a : Option Addr) (cap : Nat) (zs : List Int) (k : Nat) (b : Bool) (w : World) (n : Int) (hn0 : 0 ≤ n) (hn1 : n ≤ 1000) (h : Rd w g a cap zs k b) :
    Calls Tryz.prog 35 #[.pointer (some ⟨g, 0, none⟩), .int .u64 n] w fun e w' => ∃ (v : Int) (k' : Nat) (b' : Bool), e = .returned (.int .i64 v) ∧ 0 ≤ v ∧ v ≤ n ∧ Rd w' g a cap zs k' b' ∧ Chg w w' (fun j => j = g) ∧ Rds (countP n) (stR zs k b) (stR zs k' b') v := by
  have H : Hid (Rd w g a cap zs k b) := h
  clear h
  go_enter Tryz.func35, Tryz.ntmps35
  go_wp2_with (first | (go_at_call 70; refine (rrnum_any g a cap zs k b _ H.out).mono ?_; rintro e w1 ⟨v, k1, b1, rfl, v0, v1, R1, C1, D1⟩; have c2 := R1.c2; have f2 := R1.free 2; have HR1 : Hid (Rd w1 g a cap zs k1 b1) := R1; have HC1 : Hid (Chg w w1 (fun j => j = g)) := C1; have HD1 : Hid (Rds numP (stR zs k b) (stR zs k1 b1) v) := D1; clear R1 C1 D1))
  · go_returns
    exact ⟨0, k1, true, rfl, by omega, by omega, HR1.out.bad.1, HC1.out.trans HR1.out.bad.2 (fun _ _ x => x), HD1.out.count (.inl ⟨by assumption, rfl⟩)⟩
  · go_returns
    have hv : v ≤ n := by omega
    have e : wrap64 v = v := by unfold wrap64; omega
    refine ⟨v, k1, b1, ?_, v0, hv, HR1.out, HC1.out, HD1.out.count (.inr ⟨by omega, rfl, rfl⟩)⟩
    exact ret_int (by first | exact e | rfl)
theorem rtext14_any (g : Nat) (a : Option Addr) (cap : Nat) (zs : List Int) (k : Nat) (b : Bool) (w : World) (h : Rd w g a cap zs k b) :
    Calls Tryz.prog 41 #[.pointer (some ⟨g, 0, none⟩)] w fun e w' => ∃ (l : List Int) (k' : Nat) (b' : Bool), e = .returned (.string (strOfNums l)) ∧ (∀ z ∈ l, 0 ≤ z ∧ z ≤ 255) ∧ l.length ≤ zs.length ∧ Rd w' g a cap zs k' b' ∧ Chg w w' (fun j => j = g) ∧ Rds textP (stR zs k b) (stR zs k' b') l := by
  have H : Hid (Rd w g a cap zs k b) := h
  clear h
  go_enter Tryz.func41, Tryz.ntmps41
  go_wp2_with (first | (go_at_call 70; refine (rrnum_any g a cap zs k b _ H.out).mono ?_; rintro e w1 ⟨v, k1, b1, rfl, v0, v1, R1, C1, D1⟩; have HR1 : Hid (Rd w1 g a cap zs k1 b1) := R1; have HC1 : Hid (Chg w w1 (fun j => j = g)) := C1; have HD1 : Hid (Rds numP (stR zs k b) (stR zs k1 b1) v) := D1; clear R1 C1 D1) | (have hgo := HR1.out; clear hgo; go_at_call 71; refine (rrbytes_any g a cap zs k1 b1 _ v v0 v1 HR1.out).mono ?_; rintro e w2 ⟨l, k2, b2, rfl, hl1, hl2, R2, C2, D2, _⟩; have HR2 : Hid (Rd w2 g a cap zs k2 b2 ∧ Chg w1 w2 (fun j => j = g) ∧ Rds (bytesP v) (stR zs k1 b1) (stR zs k2 b2) l ∧ (∀ z ∈ l, 0 ≤ z ∧ z ≤ 255) ∧ l.length ≤ zs.length) := ⟨R2, C2, D2, hl1, hl2⟩; clear R2 C2 D2 hl1 hl2))
  go_returns
  exact ⟨l, k2, b2, rfl, HR2.out.2.2.2.1, HR2.out.2.2.2.2, HR2.out.1, HC1.out.trans HR2.out.2.1 (fun _ _ x => x), HD1.out.seq HR2.out.2.2.1⟩
end Go.Proofs.YtpnjcflfnoamoaaGreat

namespace Go.Proofs.YtpnjcflfnoamoaaGreat
open Go.RowKit
set_option linter.unusedVariables false

theorem cell_of_block {w w' : World} {q : Nat} (h : w'.heap[q]? = w.heap[q]?) (i : Nat) : w'.cell? ⟨q, i, none⟩ = w.cell? ⟨q, i, none⟩ ∧ w'.frozen? ⟨q, i, none⟩ = w.frozen? ⟨q, i, none⟩ := by
  refine ⟨?_, ?_⟩
  · unfold World.cell?; rw [h]
  · unfold World.frozen?; rw [h]
/-- A stamp for the answer, made ahead of what turns the reader alone. -/
theorem st_kept {w w1 w2 : World} {g : Nat} (hg : g < w.heap.size) (hc : Chg (w.alloc (.cells #[.int .i64 0, .int .u8 0] 42)) w1 (fun j => j = g)) (hb : Below w1.heap.size w1 w2) :
    w2.cell? ⟨w.heap.size, 0, none⟩ = some (.int .i64 0) ∧ w2.cell? ⟨w.heap.size, 1, none⟩ = some (.int .u8 0) ∧ w2.frozen? ⟨w.heap.size, 0, none⟩ = false ∧ w2.frozen? ⟨w.heap.size, 1, none⟩ = false ∧ w.heap.size < w1.heap.size ∧ w.heap.size < w2.heap.size := by
  have hs : (w.alloc (.cells #[.int .i64 0, .int .u8 0] 42)).heap.size = w.heap.size + 1 := by simp
  have h1 : w.heap.size < w1.heap.size := by have := hc.size; omega
  have hb1 := (hb.block w.heap.size h1).trans (hc.block w.heap.size (by omega) (by omega))
  refine ⟨?_, ?_, ?_, ?_, h1, by have := hb.size; omega⟩
  · rw [(cell_of_block hb1 0).1, World.cell?_alloc_new]; rfl
  · rw [(cell_of_block hb1 1).1, World.cell?_alloc_new]; rfl
  · rw [(cell_of_block hb1 0).2]; exact World.frozen?_alloc_new _ _ _ _
  · rw [(cell_of_block hb1 1).2]; exact World.frozen?_alloc_new _ _ _ _
/-- A world in which, but for the reader and what is new, nothing has turned, and the reader is as in another world. -/
theorem Rd.as {w u u' : World} {g : Nat} {a : Option Addr} {cap : Nat} {zs : List Int} {k k' : Nat} {b b' : Bool} (h : Rd w g a cap zs k b) (hc : Chg w u' (fun j => j = g)) (h1 : Rd u g a cap zs k' b') (hb : u'.heap[g]? = u.heap[g]?) : Rd u' g a cap zs k' b' :=
  ⟨(cell_of_block hb 0).1.trans h1.c0, (cell_of_block hb 1).1.trans h1.c1, (cell_of_block hb 2).1.trans h1.c2, fun i => (cell_of_block hb i).2.trans (h1.free i), h.row.chg hc h.far, h.far, h1.len, h.few, h.most⟩
theorem rd_end {w w1 w2 : World} {g : Nat} {a : Option Addr} {cap : Nat} {zs : List Int} {k k1 : Nat} {b b1 : Bool} {o : Obj} (h : Rd w g a cap zs k b) (C1 : Chg (w.alloc o) w1 (fun j => j = g)) (B2 : Below w1.heap.size w1 w2) (R1 : Rd w1 g a cap zs k1 b1) :
    (∀ u, Chg w2 u (fun j => j = w.heap.size) → Rd u g a cap zs k1 b1 ∧ Chg w u (fun j => j = g)) ∧ (∀ u, Chg (w2.setCell ⟨g, 2, none⟩ (.bool true)) u (fun j => j = w.heap.size) → Rd u g a cap zs k1 true ∧ Chg w u (fun j => j = g)) := by
  have hg : g < w.heap.size := lt_of_cell h.c0
  have ha : Chg w (w.alloc o) (fun j => j = g) := Chg.of_below ((Below.refl _ _).alloc (Nat.le_refl _) _) _
  have hw1 : Chg w w1 (fun j => j = g) := ha.trans C1 (fun _ _ x => x)
  have hw2 : Chg w w2 (fun j => j = g) := hw1.trans (Chg.of_below B2 _) (fun _ _ x => x)
  have R2 := R1.past B2
  have hg2 : g < w2.heap.size := lt_of_cell R2.c0
  refine ⟨fun u hu => ?_, fun u hu => ?_⟩
  · have hc : Chg w u (fun j => j = g) := hw2.trans hu (fun j hj e => by omega)
    exact ⟨h.as hc R2 (hu.block g hg2 (by omega)), hc⟩
  · have hc : Chg w u (fun j => j = g) := (hw2.trans R2.bad.2 (fun _ _ x => x)).trans hu (fun j hj e => by omega)
    exact ⟨h.as hc R2.bad.1 (hu.block g (by rw [World.size_setCell]; exact hg2) (by omega)), hc⟩
theorem chg_two (u : World) (q : Nat) (x y : Value) (o : Obj) : Chg u (((u.setCell ⟨q, 0, none⟩ x).setCell ⟨q, 1, none⟩ y).alloc o) (fun j => j = q) :=
  ((Chg.set (X := fun j => j = q) u ⟨q, 0, none⟩ x rfl).trans (Chg.set (X := fun j => j = q) _ ⟨q, 1, none⟩ y rfl) (fun _ _ x => x)).alloc o
theorem info_stp : (Tryz.prog.info? 42).map (·.size) = some 2 := by kernel_rfl
theorem results_stp {fn : Func} {c : Tmp} (h : fn.results = #[.cell c 42]) (tmps : Array Value) (w : World) (b : Nat) (t n : Int) (hp : tmps.getD c undef = .pointer (some ⟨b, 0, none⟩)) (h0 : w.cell? ⟨b, 0, none⟩ = some (.int .i64 t)) (h1 : w.cell? ⟨b, 1, none⟩ = some (.int .u8 n)) :
    (results fn tmps).run Tryz.prog w = .ok (.agg #[.int .i64 t, .int .u8 n]) w := by
  have hl := run_loadVar_mid (P := Tryz.prog) w b 0 42 [.int .i64 t, .int .u8 n] _ (fun j v hv => by
    have : j = 0 ∨ j = 1 := by
      have := (List.getElem?_eq_some_iff.1 hv).1
      simp at this; omega
    rcases this with rfl | rfl
    · injection hv with hv; rw [← hv]; exact h0
    · injection hv with hv; rw [← hv]; exact h1) Tryz.underlying42 rfl (by rw [info_stp]; rfl)
  unfold results
  rw [h]
  simp only [List.mapM_toArray, List.mapM_cons, List.mapM_nil, hp]
  simp [asAddr, hl]
theorem two_cells {u : World} {q : Nat} {x y x0 y0 : Value} (h0 : u.cell? ⟨q, 0, none⟩ = some x0) (h1 : u.cell? ⟨q, 1, none⟩ = some y0) (o : Obj) : (((u.setCell ⟨q, 0, none⟩ x).setCell ⟨q, 1, none⟩ y).alloc o).cell? ⟨q, 0, none⟩ = some x ∧ (((u.setCell ⟨q, 0, none⟩ x).setCell ⟨q, 1, none⟩ y).alloc o).cell? ⟨q, 1, none⟩ = some y := by
  have hl := lt_of_cell h0
  have hl2 : (⟨q, 0, none⟩ : Addr).block < ((u.setCell ⟨q, 0, none⟩ x).setCell ⟨q, 1, none⟩ y).heap.size := by rw [World.size_setCell, World.size_setCell]; exact hl
  refine ⟨?_, ?_⟩
  · rw [World.cell?_alloc_lt _ _ _ hl2, set_off _ _ _ _ _ (by omega)]; exact World.cell?_setCell_same _ _ _ h0
  · rw [World.cell?_alloc_lt _ _ ⟨q, 1, none⟩ hl2]; exact World.cell?_setCell_same _ _ _ ((set_off _ _ _ _ _ (by omega)).trans h1)
theorem far_cell {u : World} {g q i j : Nat} {v x : Value} (hn : g ≠ q) (h : u.cell? ⟨q, j, none⟩ = some x) : (u.setCell ⟨g, i, none⟩ v).cell? ⟨q, j, none⟩ = some x := by
  rw [World.cell?_setCell_other _ _ _ _ (by intro e; injection e with e1 _; exact hn e1)]; exact h
theorem Rds.stamp {o o1 o2 : Option (List Int)} {v t n : Int} (h : Rds numP o o1 v) (h2 : (¬ v < 9223372036854775808 ∧ o2 = none) ∨ (v < 9223372036854775808 ∧ o2 = o1 ∧ t = v / 256 ∧ n = v % 256)) : Rds stampP o o2 (t, n) := by
  refine h.seq ?_
  rcases h2 with ⟨hc, rfl⟩ | ⟨hc, rfl, rfl, rfl⟩
  · rw [if_neg hc]; exact .non _ _
  · rw [if_pos hc]; exact .ret _ _
/-- What a call that reads v by p leaves. -/
structure Red {α : Type} (w w' : World) (g : Nat) (a : Option Addr) (cap : Nat) (zs : List Int) (k : Nat) (b : Bool) (p : Pr α) (v : α) : Prop where
  ex : ∃ (k' : Nat) (b' : Bool), Rd w' g a cap zs k' b' ∧ Chg w w' (fun j => j = g) ∧ Rds p (stR zs k b) (stR zs k' b') v
theorem rstamp14_any (g : Nat) (a : Option Addr) (cap : Nat) (zs : List Int) (k : Nat) (b : Bool) (w : World) (h : Rd w g a cap zs k b) :
    Calls Tryz.prog 39 #[.pointer (some ⟨g, 0, none⟩)] w fun e w' => ∃ (t n : Int), e = .returned (.agg #[.int .i64 t, .int .u8 n]) ∧ okS t ∧ 0 ≤ n ∧ n ≤ 255 ∧ Red w w' g a cap zs k b stampP (t, n) := by
  have H0 : Hid (Rd w g a cap zs k b) := h
  have H : Hid (Rd (w.alloc (.cells #[.int .i64 0, .int .u8 0] 42)) g a cap zs k b) := h.past ((Below.refl _ _).alloc (Nat.le_refl _) _)
  have HG : Hid (g < w.heap.size) := lt_of_cell h.c0
  clear h
  go_enter Tryz.func39, Tryz.ntmps39
  go_wp2_with (first | (go_at_call 70; refine (rrnum_any g a cap zs k b _ H.out).mono ?_; rintro e w1 ⟨v, k1, b1, rfl, v0, v1, R1, C1, D1⟩; have HR1 : Hid (Rd w1 g a cap zs k1 b1) := R1; have HC1 : Hid (Chg (w.alloc (.cells #[.int .i64 0, .int .u8 0] 42)) w1 (fun j => j = g)) := C1; have HD1 : Hid (Rds numP (stR zs k b) (stR zs k1 b1) v) := D1; clear R1 C1 D1) | (have hgo := HR1.out; clear hgo; go_at_call 72; refine (runpack6_any v _ ⟨v0, v1⟩).mono ?_; rintro e w2 ⟨rfl, B2⟩; obtain ⟨r0, r1, s0, s1, z1, z2⟩ := st_kept HG.out HC1.out B2; have c2 := (HR1.out.past B2).c2; have f2 := (HR1.out.past B2).free 2; have hgz : g < w2.heap.size := lt_of_cell c2; have hgn : g ≠ w.heap.size := Nat.ne_of_lt HG.out; have HE : Hid _ := rd_end H0.out HC1.out B2 HR1.out; clear B2))
  all_goals rename_i hcond
  all_goals have hcond' := hcond
  all_goals simp only [Bool.not_eq_true', decide_eq_true_eq, decide_eq_false_iff_not, Bool.not_eq_false'] at hcond'
  all_goals first | (exfalso; omega) | skip
  · have R := HE.out.2 _ (chg_two _ w.heap.size (.int .i64 0) (.int .u8 0) (.cells #[.int .i64 0, .int .u8 0] 42))
    have C := two_cells (x := .int .i64 0) (y := .int .u8 0) (far_cell (i := 2) (v := .bool true) hgn r0) (far_cell (i := 2) (v := .bool true) hgn r1) (.cells #[.int .i64 0, .int .u8 0] 42)
    refine bodyPost_ret (results_stp rfl _ _ w.heap.size 0 0 rfl C.1 C.2) rfl ?_
    exact ⟨0, 0, rfl, ⟨by omega, by omega⟩, by omega, by omega, ⟨k1, true, R.1, R.2, HD1.out.stamp (.inl ⟨by omega, rfl⟩)⟩⟩
  · have R := HE.out.1 _ (chg_two _ w.heap.size (.int .i64 (v / 256)) (.int .u8 (v % 256)) (.cells #[.int .i64 (v / 256), .int .u8 (v % 256)] 42))
    have C := two_cells (x := .int .i64 (v / 256)) (y := .int .u8 (v % 256)) r0 r1 (.cells #[.int .i64 (v / 256), .int .u8 (v % 256)] 42)
    refine bodyPost_ret (results_stp rfl _ _ w.heap.size (v / 256) (v % 256) rfl C.1 C.2) rfl ?_
    exact ⟨v / 256, v % 256, rfl, ⟨by omega, by omega⟩, by omega, by omega, ⟨k1, b1, R.1, R.2, HD1.out.stamp (.inr ⟨by omega, rfl, rfl, rfl⟩)⟩⟩
end Go.Proofs.YtpnjcflfnoamoaaGreat

