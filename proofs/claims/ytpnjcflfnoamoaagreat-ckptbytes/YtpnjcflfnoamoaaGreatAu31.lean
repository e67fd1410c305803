/-
  Entries loaded, stored and answered whole; what the document's own tables answer: Has, holder, Holder, Blocks (hourglassref10: Table).
  What the document's own tables answer: Holder, Blocks, Least (hourglassref10: Table).
  What the document's own tables answer: Drop (hourglassref10: Table).
  Lists of entries cut in two; one entry as a list; a list of writes copied.
  Plain facts on integers, bits and lists: numbers in groups of seven bits, folded signs, cut bits. No program is named here.
  Numbers in groups of seven bits: the steps of a walk that reads one.
-/
import Derived.Test.YtpnjcflfnoamoaaGreatAu22
import Derived.Deep.MidRow
import Derived.Deep.Slices
import Derived.WalkKit
import Derived.Laws.BitsAllLaws
import Derived.Test.YtpnjcflfnoamoaaGreatBase
namespace Go.Proofs.YtpnjcflfnoamoaaGreat
open Go.RowKit
set_option linter.unusedVariables false

/-- One entry in memory of the call's own. -/
structure EntMine (w : World) (b : Nat) (x : EntM) : Prop where
  at_ : EntAt w b 0 x
  free : ∀ i, i < 6 → w.frozen? ⟨b, 0 + i, none⟩ = false
theorem EntAt.lt {w : World} {b o : Nat} {x : EntM} (h : EntAt w b o x) : b < w.heap.size := cell_lt h.cells.1
theorem EntMine.made (w : World) (T : TypeId) (x : EntM) : EntMine (w.alloc (.cells (encE x).toArray T)) w.heap.size x :=
  ⟨⟨lies_made w (encE x).toArray T⟩, fun i hi => World.frozen?_alloc_new _ _ _ _⟩
theorem EntMine.past {w w' : World} {b : Nat} {x : EntM} (h : EntMine w b x) (hb : Below w.heap.size w w') : EntMine w' b x :=
  ⟨h.at_.past hb, fun i hi => by rw [hb.frozen (p := ⟨b, 0 + i, none⟩) h.at_.lt]; exact h.free i hi⟩
theorem EntMine.there {w : World} {b : Nat} {x : EntM} (h : EntMine w b x) : w.there b 0 6 := fun j hj => by
  obtain ⟨u, hu⟩ : ∃ u, (encE x)[j]? = some u := ⟨_, List.getElem?_eq_getElem (by rw [encE_len]; exact hj)⟩
  exact ⟨by rw [h.at_.lies.at j u hu]; rfl, h.free j hj⟩
theorem EntMine.store {w : World} {b : Nat} {x x' : EntM} (h : EntMine w b x) : EntMine (w.setCells b 0 (encE x')) b x' := by
  have ht := h.there
  rw [← encE_len x'] at ht
  exact ⟨⟨lies_of (World.rangeAt_setCells_same w b 0 (encE x') ht)⟩, fun i hi => by rw [World.frozen?_setCells]; exact h.free i hi⟩
end Go.Proofs.YtpnjcflfnoamoaaGreat

namespace Go.Proofs.YtpnjcflfnoamoaaGreat
open Go.RowKit
set_option linter.unusedVariables false

/-- A stamp in memory of the call's own. -/
structure StMine (w : World) (b : Nat) (t n : Int) : Prop where
  c0 : w.cell? ⟨b, 0, none⟩ = some (.int .i64 t)
  c1 : w.cell? ⟨b, 1, none⟩ = some (.int .u8 n)
  free : ∀ i, i < 2 → w.frozen? ⟨b, 0 + i, none⟩ = false
theorem StMine.made (w : World) (T : TypeId) (t n : Int) : StMine (w.alloc (.cells #[.int .i64 t, .int .u8 n] T)) w.heap.size t n :=
  ⟨by rw [World.cell?_alloc_new]; rfl, by rw [World.cell?_alloc_new]; rfl, fun i hi => World.frozen?_alloc_new _ _ _ _⟩
theorem StMine.past {w w' : World} {b : Nat} {t n : Int} (h : StMine w b t n) (hb : Below w.heap.size w w') : StMine w' b t n :=
  have hl := cell_lt h.c0
  ⟨(hb.cell (p := ⟨b, 0, none⟩) hl).trans h.c0, (hb.cell (p := ⟨b, 1, none⟩) hl).trans h.c1, fun i hi => (hb.frozen (p := ⟨b, 0 + i, none⟩) hl).trans (h.free i hi)⟩
theorem StMine.there {w : World} {b : Nat} {t n : Int} (h : StMine w b t n) : w.there b 0 2 := fun j hj => by
  refine ⟨?_, h.free j hj⟩
  have : j = 0 ∨ j = 1 := by omega
  rcases this with rfl | rfl
  · rw [Nat.zero_add, h.c0]; rfl
  · rw [Nat.zero_add, h.c1]; rfl
theorem StMine.store {w : World} {b : Nat} {t n t' n' : Int} (h : StMine w b t n) : StMine (w.setCells b 0 [.int .i64 t', .int .u8 n']) b t' n' := by
  have hr := World.rangeAt_setCells_same w b 0 [.int .i64 t', .int .u8 n'] h.there
  exact ⟨hr 0 _ rfl, hr 1 _ rfl, fun i hi => by rw [World.frozen?_setCells]; exact h.free i hi⟩
/-- What Least's rounds hold. -/
structure LsB (w u : World) (t n : Int) : Prop where
  r : StMine u w.heap.size 0 0
  b : StMine u (w.heap.size + 1) t n
  below : Below w.heap.size w u
theorem LsB.made (w : World) (T : TypeId) : LsB w ((w.alloc (.cells #[.int .i64 0, .int .u8 0] T)).alloc (.cells #[.int .i64 0, .int .u8 0] T)) 0 0 := by
  obtain ⟨u1, h1⟩ : ∃ u, u = w.alloc (.cells #[.int .i64 0, .int .u8 0] T) := ⟨_, rfl⟩
  have e1 : u1.heap.size = w.heap.size + 1 := by rw [h1]; simp
  have r1 : StMine u1 w.heap.size 0 0 := by rw [h1]; exact StMine.made w T 0 0
  have b1 : Below w.heap.size w u1 := by rw [h1]; exact (Below.refl _ _).alloc (Nat.le_refl _) _
  rw [← h1]
  have b2 : Below u1.heap.size u1 (u1.alloc (.cells #[.int .i64 0, .int .u8 0] T)) := (Below.refl _ _).alloc (Nat.le_refl _) _
  have m2 := StMine.made u1 T 0 0
  rw [e1] at m2
  exact ⟨r1.past b2, m2, b1.trans (b2.mono b1.size)⟩
theorem LsB.past {w u u' : World} {t n : Int} (h : LsB w u t n) (hb : Below u.heap.size u u') : LsB w u' t n := ⟨h.r.past hb, h.b.past hb, h.below.trans (hb.mono h.below.size)⟩
theorem cells_else {w : World} {b c : Nat} (hne : c ≠ b) : ∀ (vs : List Value) (o : Nat) (w : World), (w.setCells b o vs).heap[c]? = w.heap[c]?
  | [], o, w => rfl
  | v :: r, o, w => by
    show ((w.setCell ⟨b, o, none⟩ v).setCells b (o + 1) r).heap[c]? = _
    rw [cells_else (w := w) hne r (o + 1) (w.setCell ⟨b, o, none⟩ v)]
    exact Below.heap_setCell _ ⟨b, o, none⟩ _ c hne
theorem StMine.else_ {w : World} {b c : Nat} {t n : Int} (h : StMine w c t n) (hne : c ≠ b) (vs : List Value) : StMine (w.setCells b 0 vs) c t n :=
  have hk := cells_else (w := w) hne vs 0 w
  ⟨(cell_kept hk 0).trans h.c0, (cell_kept hk 1).trans h.c1, fun i hi => by rw [World.frozen?_setCells]; exact h.free i hi⟩
theorem LsB.store {w u : World} {t n t' n' : Int} (h : LsB w u t n) : LsB w (u.setCells (w.heap.size + 1) 0 [.int .i64 t', .int .u8 n']) t' n' :=
  ⟨h.r.else_ (by omega) _, h.b.store, below_cells (by omega) h.below⟩
end Go.Proofs.YtpnjcflfnoamoaaGreat

namespace Go.Proofs.YtpnjcflfnoamoaaGreat
open Go.RowKit
set_option linter.unusedVariables false

theorem EntAt.kept {u u' : World} {b o : Nat} {x : EntM} (h : EntAt u b o x) (hk : u'.heap[b]? = u.heap[b]?) : EntAt u' b o x := ⟨lies_of fun j v hv => by rw [cell_kept hk]; exact h.lies.at j v hv⟩
theorem EntMine.kept {u u' : World} {b : Nat} {x : EntM} (h : EntMine u b x) (hk : u'.heap[b]? = u.heap[b]?) : EntMine u' b x := ⟨h.at_.kept hk, fun i hi => by rw [frozen_kept hk]; exact h.free i hi⟩
end Go.Proofs.YtpnjcflfnoamoaaGreat

namespace Go.Proofs.YtpnjcflfnoamoaaGreat
open Go.RowKit
set_option linter.unusedVariables false

theorem lies_flat {α : Type} {enc : α → List Value} {size : Nat} {w : World} {b : Nat} : ∀ (l : List α) (o : Nat), (∀ x ∈ l, (enc x).length = size) → (∀ i x, l[i]? = some x → Lies w (some ⟨b, o + i * size, none⟩) (enc x)) → Lies w (some ⟨b, o, none⟩) (l.flatMap enc)
  | [], o, _, _ => lies_empty _ _ _
  | x :: r, o, hl, h => by
    have hx : (enc x).length = size := hl x (by simp)
    have h0 := h 0 x rfl
    rw [Nat.zero_mul, Nat.add_zero] at h0
    have hr := lies_flat r (o + size) (fun y hy => hl y (by simp [hy])) (fun i y hy => by
      have := h (i + 1) y (by simpa using hy)
      rwa [Nat.succ_mul, Nat.add_comm (i * size), ← Nat.add_assoc] at this)
    refine lies_of fun j u hj => ?_
    rw [List.flatMap_cons] at hj
    by_cases hjs : j < size
    · rw [List.getElem?_append_left (by omega)] at hj
      exact h0.at j u hj
    · rw [List.getElem?_append_right (by omega), hx] at hj
      have := hr.at (j - size) u hj
      rwa [show o + size + (j - size) = o + j by omega] at this
theorem WrtsAt.lies {w : World} {a : Option Addr} {l : List Wrt} (h : WrtsAt w a l) : Lies w a (l.flatMap encW) := by
  rcases h.cells with rfl | ⟨b, o, rfl, hc⟩
  · exact lies_nil _ _
  · exact lies_flat l o (fun W hW => encW_len (h.oks W hW).key) (fun i W hW => (hc i W hW).lies)
end Go.Proofs.YtpnjcflfnoamoaaGreat

namespace Go.Proofs.YtpnjcflfnoamoaaGreat.Pl
open Go Go.RowKit

/-! ### Folded signs -/
/-! ### Cut bits -/
/-! ### Numbers in groups of seven bits -/
def putF : Nat → Int → List Int
  | 0, v => [v]
  | f + 1, v => if v < 128 then [v] else (v % 128 + 128) :: putF f (v / 128)
def putI (v : Int) : List Int := putF 9 v
def Fits (f : Nat) (x : Int) : Prop := 0 ≤ x ∧ x < 2 * 128 ^ f
theorem fits_start (v : Int) (h0 : 0 ≤ v) (h1 : v ≤ 18446744073709551615) : Fits 9 v := by
  unfold Fits
  have e : (2 : Int) * 128 ^ 9 = 18446744073709551616 := by decide
  omega
theorem fits_zero {x : Int} (h : Fits 0 x) : x < 128 := by
  unfold Fits at h; simp at h; omega
theorem fits_step {f : Nat} {x : Int} (h : Fits (f + 1) x) : Fits f (x / 128) := by
  unfold Fits at *
  have e : (2 : Int) * 128 ^ (f + 1) = 2 * 128 ^ f * 128 := by rw [Int.pow_succ, Int.mul_assoc]
  rw [e] at h
  exact ⟨by omega, by omega⟩
theorem put_last {f : Nat} {x : Int} (h : x < 128) : putF f x = [x] := by
  cases f with
  | zero => rfl
  | succ f => simp [putF, h]
theorem put_more {f : Nat} {x : Int} (h : 128 ≤ x) : putF (f + 1) x = (x % 128 + 128) :: putF f (x / 128) := by
  have : ¬ x < 128 := by omega
  simp [putF, this]
theorem put_length_pos (f : Nat) (x : Int) : 1 ≤ (putF f x).length := by
  cases f with
  | zero => simp [putF]
  | succ f => unfold putF; split <;> simp
theorem put_length_le (f : Nat) : ∀ x : Int, (putF f x).length ≤ f + 1 := by
  induction f with
  | zero => intro x; simp [putF]
  | succ f ih => intro x; unfold putF; split
                 · simp
                 · have := ih (x / 128); simp; omega
theorem put_bytes (f : Nat) : ∀ x : Int, Fits f x → ∀ c ∈ putF f x, 0 ≤ c ∧ c ≤ 255 := by
  induction f with
  | zero => intro x h c hc; have := fits_zero h; simp [putF] at hc; unfold Fits at h; omega
  | succ f ih =>
    intro x h c hc
    by_cases hx : x < 128
    · rw [put_last hx] at hc; simp at hc; unfold Fits at h; omega
    · rw [put_more (by omega)] at hc
      rcases List.mem_cons.1 hc with rfl | hc
      · omega
      · exact ih _ (fits_step h) c hc

def goodB (c i : Int) : Bool := !(decide (0 < i) && c == 0) && (decide (i < 9) || c == 1)
def getF : Nat → Int → Nat → List Int → Int × Int × Int
  | 0, _, _, _ => (0, 0, 3)
  | _ + 1, _, _, [] => (0, 0, 3)
  | f + 1, X, k, c :: r => if c < 128 then (if goodB c k = true then (X + c * 2 ^ (7 * k), (k : Int) + 1, 0) else (0, 0, 3)) else getF f (X + c % 128 * 2 ^ (7 * k)) (k + 1) r
def getI (zs : List Int) : Int × Int × Int := getF 10 0 0 zs
theorem get_none (X : Int) (k : Nat) (zs : List Int) : getF 0 X k zs = (0, 0, 3) := rfl
theorem get_nil (f : Nat) (X : Int) (k : Nat) : getF f X k [] = (0, 0, 3) := by cases f <;> rfl
theorem get_more {f : Nat} {X c : Int} {k : Nat} {r : List Int} (h : 128 ≤ c) : getF (f + 1) X k (c :: r) = getF f (X + c % 128 * 2 ^ (7 * k)) (k + 1) r := by
  have : ¬ c < 128 := by omega
  simp [getF, this]
theorem get_end {f : Nat} {X c : Int} {k : Nat} {r : List Int} (h : c < 128) (hg : goodB c k = true) : getF (f + 1) X k (c :: r) = (X + c * 2 ^ (7 * k), (k : Int) + 1, 0) := by
  simp [getF, h, hg]
theorem get_bad {f : Nat} {X c : Int} {k : Nat} {r : List Int} (h : c < 128) (hg : goodB c k = false) : getF (f + 1) X k (c :: r) = (0, 0, 3) := by
  simp [getF, h, hg]

theorem mask127 {c : Int} (h₀ : 0 ≤ c) (h₁ : c ≤ 255) : bits .and .u8 c 127 = c % 128 := bits_mask .u8 8 (by decide) wraps_u8 7 (by decide) c h₀ (by omega)
theorem or128 (x : Int) (h0 : 0 ≤ x) (h1 : x < 256) : bits .or .u8 x 128 = x % 128 + 128 := by
  rw [u8_or x 128 h0 h1 (by omega) (by omega)]
  obtain ⟨a, rfl⟩ := Int.eq_ofNat_of_zero_le h0
  have ha : a < 256 := by omega
  have e : (128 : Int).toNat = 128 := rfl
  rw [Int.toNat_natCast, e]
  have key : ∀ a : Fin 256, (a.val ||| 128) = a.val % 128 + 128 := by decide +kernel
  have := key ⟨a, ha⟩
  simp only at this
  rw [this]; omega
/-- A group laid above what has been read. -/
theorem or_group (X c : Int) (k : Nat) (h0 : 0 ≤ X) (h1 : X < 2 ^ (7 * k)) (c0 : 0 ≤ c) (hb : X + c * 2 ^ (7 * k) < 18446744073709551616) :
    bits .or .u64 X (IntKind.u64.wrap (c * 2 ^ (7 * k))) = X + c * 2 ^ (7 * k) := by
  have hp : (0 : Int) < 2 ^ (7 * k) := Int.pow_pos (by omega)
  have hc : 0 ≤ c * 2 ^ (7 * k) := Int.mul_nonneg c0 (by omega)
  have e1 : IntKind.u64.wrap (c * 2 ^ (7 * k)) = c * 2 ^ (7 * k) := by
    rw [IntKind.wrap_u64]; exact Int.emod_eq_of_lt hc (by omega)
  rw [e1, u64_or X _ h0 (by omega) hc (by omega)]
  obtain ⟨x, rfl⟩ := Int.eq_ofNat_of_zero_le h0
  obtain ⟨g, rfl⟩ := Int.eq_ofNat_of_zero_le c0
  have e2 : (2 : Int) ^ (7 * k) = ((2 ^ (7 * k) : Nat) : Int) := by simp
  rw [e2] at h1 ⊢
  rw [← Int.natCast_mul, Int.toNat_natCast, Int.toNat_natCast, Nat.or_comm, nat_join (7 * k) (g * 2 ^ (7 * k)) x (by simp) (by omega)]
  rw [Nat.add_comm]; simp

/-- What is written is read back, whatever is behind it. -/
theorem get_putF (f : Nat) : ∀ (x X : Int) (k : Nat) (r : List Int), Fits f x → k + f = 9 → (0 < k → 1 ≤ x) → getF (f + 1) X k (putF f x ++ r) = (X + x * 2 ^ (7 * k), (k : Int) + (putF f x).length, 0) := by
  induction f with
  | zero =>
    intro x X k r h hk h1
    have h2 := h.2
    simp at h2
    have hx : x = 1 := by have := h1 (by omega); omega
    subst hx
    have : k = 9 := by omega
    subst this
    rfl
  | succ f ih =>
    intro x X k r h hk h1
    by_cases hx : x < 128
    · rw [put_last hx]
      have hg : goodB x k = true := by
        have a1 : ¬ (0 < (k : Int) ∧ x = 0) := fun h => by have := h1 (by omega); omega
        have a2 : (k : Int) < 9 := by omega
        unfold goodB
        rw [Bool.and_eq_true]
        refine ⟨?_, ?_⟩
        · have : (decide (0 < (k : Int)) && x == 0) = false := by
            rw [Bool.eq_false_iff]; intro h; rw [Bool.and_eq_true] at h; exact a1 ⟨of_decide_eq_true h.1, eq_of_beq h.2⟩
          rw [this]; rfl
        · rw [Bool.or_eq_true]; exact .inl (decide_eq_true a2)
      show getF (f + 1 + 1) X k (x :: r) = _
      rw [get_end hx hg]; rfl
    · rw [put_more (by omega)]
      show getF (f + 1 + 1) X k ((x % 128 + 128) :: (putF f (x / 128) ++ r)) = _
      rw [get_more (by omega), ih (x / 128) _ (k + 1) r (fits_step h) (by omega) (fun _ => by omega)]
      have e1 : (x % 128 + 128) % 128 = x % 128 := by omega
      have e2 : (2 : Int) ^ (7 * (k + 1)) = 128 * 2 ^ (7 * k) := by rw [Nat.mul_succ, Int.pow_add, Int.mul_comm]; rfl
      have e3 : X + x % 128 * 2 ^ (7 * k) + x / 128 * (128 * 2 ^ (7 * k)) = X + x * 2 ^ (7 * k) := by
        have e : x = x % 128 + 128 * (x / 128) := by omega
        conv => rhs; rw [e]
        rw [Int.add_mul, Int.mul_assoc, ← Int.mul_assoc (x / 128), Int.mul_comm (x / 128) 128, Int.mul_assoc, Int.add_assoc]
      rw [e1, e2, e3]
      simp
      omega
theorem get_put (v : Int) (r : List Int) (h0 : 0 ≤ v) (h1 : v ≤ 18446744073709551615) : getI (putI v ++ r) = (v, ((putI v).length : Int), 0) := by
  unfold getI putI
  rw [get_putF 9 v 0 0 r (fits_start v h0 h1) rfl (by omega)]
  simp

end Go.Proofs.YtpnjcflfnoamoaaGreat.Pl

namespace Go.Proofs.YtpnjcflfnoamoaaGreat
open Go.RowKit
set_option linter.unusedVariables false

theorem pow7 (k : Nat) (h : k ≤ 8) : (2 : Int) ^ (7 * k) ≤ 72057594037927936 := by
  have : 2 ^ (7 * k) ≤ 2 ^ 56 := Nat.pow_le_pow_right (by omega) (by omega)
  have e : ((2 ^ (7 * k) : Nat) : Int) = (2 : Int) ^ (7 * k) := by simp
  have : ((2 ^ (7 * k) : Nat) : Int) ≤ ((2 ^ 56 : Nat) : Int) := by exact_mod_cast this
  rw [e] at this
  exact this
theorem pow_succ7 (k : Nat) : (2 : Int) ^ (7 * (k + 1)) = 128 * 2 ^ (7 * k) := by
  rw [Nat.mul_succ, Int.pow_add, Int.mul_comm]; rfl
/-- A group below 128 laid above what has been read stays below the next group. -/
theorem group_lt (X c : Int) (k : Nat) (h1 : X < 2 ^ (7 * k)) (c1 : c ≤ 127) : X + c * 2 ^ (7 * k) < 2 ^ (7 * (k + 1)) := by
  have hp : (0 : Int) < 2 ^ (7 * k) := Int.pow_pos (by omega)
  have : c * 2 ^ (7 * k) ≤ 127 * 2 ^ (7 * k) := Int.mul_le_mul_of_nonneg_right c1 (by omega)
  rw [pow_succ7]; omega
theorem ret3 {a b c a' b' c' : Int} (h : (a, b, c) = (a', b', c')) : Ending.returned (.tuple #[.int .u64 a, .int .i64 b, .int .i64 c]) = .returned (.tuple #[.int .u64 a', .int .i64 b', .int .i64 c']) := by
  simp only [Prod.mk.injEq] at h
  obtain ⟨rfl, rfl, rfl⟩ := h; rfl
theorem step_bad {g : Int × Int × Int} {zs r : List Int} {k : Nat} {X c : Int} (hd : g = Pl.getF (10 - k) X k zs) (hz : zs = c :: r) (hf : 10 - k = 9 - k + 1) (hc : c < 128) (hb : (!Pl.goodB c k) = true) : g = (0, 0, 3) := by
  rw [hd, hz, hf, Pl.get_bad hc (by simpa using hb)]
theorem step_good {g : Int × Int × Int} {zs r : List Int} {k : Nat} {X c : Int} (hd : g = Pl.getF (10 - k) X k zs) (hz : zs = c :: r) (hf : 10 - k = 9 - k + 1) (hX : k ≤ 9 → 0 ≤ X ∧ X < 2 ^ (7 * k)) (h10 : k < 10) (c0 : 0 ≤ c) (hc : c < 128) (hb : Pl.goodB c k = true) :
    g = (bits .or .u64 X (IntKind.u64.wrap (c % 128 * 2 ^ (7 * k))), (k : Int) + 1, 0) := by
  rw [hd, hz, hf, Pl.get_end hc hb]
  obtain ⟨x0, x1⟩ := hX (by omega)
  have e : c % 128 = c := by omega
  have hlt : X + c * 2 ^ (7 * k) < 18446744073709551616 := by
    by_cases h9 : k = 9
    · subst h9
      have : c = 1 := by unfold Pl.goodB at hb; simp at hb; exact hb.2
      subst this
      have e9 : (2 : Int) ^ (7 * 9) = 9223372036854775808 := by decide
      rw [e9] at x1 ⊢; omega
    · have h1 := group_lt X c k x1 (by omega)
      have h2 := pow7 k (by omega)
      rw [pow_succ7] at h1
      omega
  rw [e, Pl.or_group X c k x0 x1 c0 hlt]
theorem step_more {g : Int × Int × Int} {zs r : List Int} {k : Nat} {X c : Int} (hd : g = Pl.getF (10 - k) X k zs) (hz : zs = c :: r) (hf : 10 - k = 9 - k + 1) (hX : k ≤ 9 → 0 ≤ X ∧ X < 2 ^ (7 * k)) (h10 : k < 10) (c0 : 0 ≤ c) (c1 : c ≤ 255) (hc : 128 ≤ c) :
    (k + 1 ≤ 9 → 0 ≤ bits .or .u64 X (IntKind.u64.wrap (c % 128 * 2 ^ (7 * k))) ∧ bits .or .u64 X (IntKind.u64.wrap (c % 128 * 2 ^ (7 * k))) < 2 ^ (7 * (k + 1))) ∧
    g = Pl.getF (10 - (k + 1)) (bits .or .u64 X (IntKind.u64.wrap (c % 128 * 2 ^ (7 * k)))) (k + 1) r := by
  obtain ⟨x0, x1⟩ := hX (by omega)
  have e : 10 - (k + 1) = 9 - k := by omega
  rw [hd, hz, hf, Pl.get_more hc, e]
  by_cases h9 : k = 9
  · subst h9; exact ⟨fun h => by omega, rfl⟩
  · have h1 := group_lt X (c % 128) k x1 (by omega)
    have h2 := pow7 k (by omega)
    have hp : (0 : Int) < 2 ^ (7 * k) := Int.pow_pos (by omega)
    have hm : 0 ≤ c % 128 * 2 ^ (7 * k) := Int.mul_nonneg (by omega) (by omega)
    have h3 := h1
    rw [pow_succ7] at h3
    rw [Pl.or_group X (c % 128) k x0 x1 (by omega) (by omega)]
    exact ⟨fun _ => ⟨by omega, h1⟩, rfl⟩
theorem step_out {g : Int × Int × Int} {zs : List Int} {k len : Nat} {X : Int} (hd : g = Pl.getF (10 - k) X k (zs.drop k)) (hl : len = zs.length) (h : ¬ (k < len ∧ k < 10)) : g = (0, 0, 3) := by
  rw [hd]
  by_cases h10 : k < 10
  · rw [List.drop_eq_nil_of_le (by omega), Pl.get_nil]
  · have : 10 - k = 0 := by omega
    rw [this, Pl.get_none]
theorem get_casesF (f : Nat) : ∀ (X : Int) (k : Nat) (zs : List Int), Pl.getF f X k zs = (0, 0, 3) ∨ ∃ V N, Pl.getF f X k zs = (V, N, 0) ∧ 1 ≤ N := by
  induction f with
  | zero => intro X k zs; exact .inl rfl
  | succ f ih =>
    intro X k zs
    cases zs with
    | nil => exact .inl rfl
    | cons c r =>
      by_cases hc : c < 128
      · by_cases hg : Pl.goodB c k = true
        · exact .inr ⟨_, _, Pl.get_end hc hg, by omega⟩
        · exact .inl (Pl.get_bad hc (by simpa using hg))
      · rw [Pl.get_more (by omega)]
        exact ih _ _ _
theorem get_cases (zs : List Int) : Pl.getI zs = (0, 0, 3) ∨ ∃ V N, Pl.getI zs = (V, N, 0) ∧ 1 ≤ N := get_casesF 10 0 0 zs
end Go.Proofs.YtpnjcflfnoamoaaGreat

