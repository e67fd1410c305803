/-
  What the document's own numbers are: Get, Put, Zig, Zag.
  Records in bytes, as chapter 14 tells it: what is written, how it is read; what is written is read back, and nothing else has its bytes. No program is named here.
  What the document's own stamps (hourglassref6: Good, Cmp, Pack, Unpack, Max, Digits, Text) answer.
-/
import Derived.Test.YtpnjcflfnoamoaaGreatAu31
import Derived.Test.YtpnjcflfnoamoaaGreatAu22
import Derived.Test.YtpnjcflfnoamoaaGreatAu35
import Derived.Test.YtpnjcflfnoamoaaGreatBase
import Derived.Deep.RegionHeld3
import Derived.Test.YtpnjcflfnoamoaaGreatAu23
namespace Go.Proofs.YtpnjcflfnoamoaaGreat
open Go.RowKit
set_option linter.unusedVariables false

theorem ret2 {a b a' b' : Int} (h : a = a' ∧ b = b') : Ending.returned (.tuple #[.int .u64 a, .int .i64 b]) = .returned (.tuple #[.int .u64 a', .int .i64 b']) := by
  obtain ⟨rfl, rfl⟩ := h; rfl
theorem fst_of {g : Int × Int × Int} {a b c : Int} (h : g = (a, b, c)) : a = g.1 ∧ b = g.2.1 := by rw [h]; exact ⟨rfl, rfl⟩
/-- The tenth byte with more than one bit. -/
theorem step_ten {g : Int × Int × Int} {zs r : List Int} {X c : Int} (hd : g = Pl.getF (10 - 9) X 9 zs) (hz : zs = c :: r) (h0 : 0 ≤ c) (h1 : c ≤ 255) (hc : 1 < c % 128) : g = (0, 0, 3) := by
  have e : 10 - 9 = 0 + 1 := rfl
  rw [hd, hz, e]
  by_cases h : c < 128
  · refine Pl.get_bad h ?_
    have h2 : ¬ c = 1 := by omega
    simp [Pl.goodB, h2]
  · rw [Pl.get_more (by omega), Pl.get_none]
theorem good_of {c : Int} {k : Nat} (h0 : 0 ≤ c) (hc : c < 128) (hk : k < 10) (h9 : k = 9 → c % 128 ≤ 1) (hz : ¬ (c = 0 ∧ 0 < k)) : Pl.goodB c k = true := by
  have h1 : ¬ (0 < (k : Int) ∧ c = 0) := fun h => hz ⟨h.2, by omega⟩
  have h2 : (k : Int) < 9 ∨ c = 1 := by
    by_cases hk9 : k = 9
    · have := h9 hk9
      have : ¬ c = 0 := fun h => hz ⟨h, by omega⟩
      omega
    · omega
  unfold Pl.goodB
  rw [Bool.and_eq_true]
  refine ⟨?_, ?_⟩
  · have : (decide (0 < (k : Int)) && c == 0) = false := by
      rw [Bool.eq_false_iff]; intro h; rw [Bool.and_eq_true] at h; exact h1 ⟨of_decide_eq_true h.1, eq_of_beq h.2⟩
    rw [this]; rfl
  · rw [Bool.or_eq_true]
    rcases h2 with h | h
    · exact .inl (decide_eq_true h)
    · exact .inr (by rw [h]; rfl)
theorem bad_of {c : Int} {k : Nat} (hc : c = 0) (hk : 0 < k) : (!Pl.goodB c k) = true := by
  simp [Pl.goodB, hc]
  omega
theorem rget_any (a : Option Addr) (cap : Nat) (zs : List Int) (w : World) (hrow : Row w a zs) (hmax : zs.length ≤ 140737488351232) :
    Calls Tryz.prog 96 #[.slice a zs.length cap] w fun e w' =>
      e = .returned (.tuple #[.int .u64 (Pl.getI zs).1, .int .i64 (Pl.getI zs).2.1]) ∧ w' = w := by
  obtain ⟨hbytes, hcells⟩ := hrow
  rcases hcells with rfl | ⟨b, off, rfl, hc⟩
  · clear hbytes hmax
    go_enter Tryz.func96, Tryz.ntmps96
    go_wp2
    refine wp_loop_rounds 1 ?_
    rw [rounds_succ]
    go_wp2
    go_ret2
    exact ⟨rfl, rfl⟩
  · obtain ⟨len, hlen⟩ : ∃ len, len = zs.length := ⟨_, rfl⟩
    rw [← hlen] at hc hmax ⊢
    go_enter Tryz.func96, Tryz.ntmps96
    go_wp2
    go_loop [4, 5] (fun x i => ∃ (k : Nat) (X : Int), k ≤ len ∧ k ≤ 10 ∧ i = .int .i64 k ∧ x = .int .u64 X ∧ (k ≤ 9 → 0 ≤ X ∧ X < 2 ^ (7 * k)) ∧ Pl.getI zs = Pl.getF (10 - k) X k (zs.drop k)) (fun _ i => len - (intOf i).toNat)
    case atStart => exact ⟨0, 0, by omega, by omega, rfl, rfl, fun _ => by simp, rfl⟩
    case round =>
      obtain ⟨k, X, hk, hk10, rfl, rfl, hX, hd⟩ := hrel
      have HD : Hid (Pl.getI zs = Pl.getF (10 - k) X k (zs.drop k)) := hd
      clear hd
      by_cases hlt : k < len ∧ k < 10
      · obtain ⟨hlt, h10⟩ := hlt
        have hcell : w.cell? ⟨b, off + k, none⟩ = some (.int .u8 (zs.getD k 0)) := hc k hlt
        have hrk := at_byte hbytes k
        have hmask := Pl.mask127 hrk.1 hrk.2
        have HDR : Hid (zs.drop k = zs[k]?.getD 0 :: zs.drop (k + 1)) := drop_at zs k (by omega)
        have HF : Hid (10 - k = (9 - k) + 1) := by show _ = _; omega
        clear hlen hbytes hc
        by_cases h9 : k = 9 ∧ 1 < zs[k]?.getD 0 % 128
        · obtain ⟨rfl, hb1⟩ := h9
          have HB : Hid (Pl.getI zs = (0, 0, 3)) := step_ten HD.out HDR.out hrk.1 hrk.2 hb1
          clear HD HDR HF hX
          go_wp2
          go_ret2
          exact ⟨ret2 (fst_of HB.out), rfl⟩
        · have H9 : Hid (k = 9 → zs[k]?.getD 0 % 128 ≤ 1) := fun h => by omega
          have hq : (((k : Int) == 9) = true ∧ zs[k]?.getD 0 % 128 ≤ 1) ∨ ((k : Int) == 9) = false := by
            by_cases h : k = 9
            · left; exact ⟨by rw [h]; rfl, by omega⟩
            · right; exact beq_eq_false_iff_ne.2 (by omega)
          clear h9
          rcases hq with ⟨e9, hle⟩ | e9
          all_goals
            by_cases hc128 : zs[k]?.getD 0 < 128
            · by_cases hz : zs[k]?.getD 0 = 0 ∧ 0 < k
              · have HB : Hid (Pl.getI zs = (0, 0, 3)) := step_bad HD.out HDR.out HF.out hc128 (bad_of hz.1 hz.2)
                have hz1 : (zs[k]?.getD 0 == 0) = true := by simp [hz.1]
                have hz2 : (0 : Int) < (k : Int) := by omega
                clear HD HDR HF hX hz H9
                go_wp2
                go_ret2
                exact ⟨ret2 (fst_of HB.out), rfl⟩
              · have hg := good_of hrk.1 hc128 h10 H9.out hz
                have HB : Hid _ := step_good HD.out HDR.out HF.out hX h10 hrk.1 hc128 hg
                clear HD HDR HF hX hg H9
                by_cases hz0 : zs[k]?.getD 0 = 0
                · have hz1 : (zs[k]?.getD 0 == 0) = true := by simp [hz0]
                  have hz2 : ¬ (0 : Int) < (k : Int) := by omega
                  clear hz hz0
                  go_wp2
                  go_ret2
                  exact ⟨ret2 (fst_of HB.out), rfl⟩
                · have hz1 : (zs[k]?.getD 0 == 0) = false := by simp [hz0]
                  clear hz hz0
                  go_wp2
                  go_ret2
                  exact ⟨ret2 (fst_of HB.out), rfl⟩
            · have R := step_more HD.out HDR.out HF.out hX h10 hrk.1 hrk.2 (by omega)
              have R1 : Hid _ := R
              clear HD HDR HF hX R H9
              go_wp2
              go_round
              case rel => exact ⟨k + 1, _, by omega, by omega, by go_num, rfl, R1.out.1, R1.out.2⟩
              case measure => simp [intOf]; omega
      · have HO : Hid (Pl.getI zs = (0, 0, 3)) := step_out HD.out hlen hlt
        clear HD hX hc hbytes hlen
        by_cases h10 : k < 10
        · have hkl : k = len := by omega
          subst hkl
          clear hlt
          go_wp2
          go_ret2
          exact ⟨ret2 (fst_of HO.out), rfl⟩
        · have hkl : k = 10 := by omega
          subst hkl
          clear hlt
          go_wp2
          all_goals
            go_ret2
            exact ⟨ret2 (fst_of HO.out), rfl⟩
/-- What is owned stays owned where nothing below has turned. -/
theorem own_belowN {w w' : World} {base n cap g B : Nat} {xs : List Value} (h : w.ownsRow base 5 1 (.slice (some ⟨g, 0, none⟩) n cap) n xs) (hb : Below B w w') (hg : g < B) : w'.ownsRow base 5 1 (.slice (some ⟨g, 0, none⟩) n cap) n xs := by
  refine ⟨h.1, ?_⟩
  rcases h.2 with ⟨h1, _⟩ | ⟨g', cap', cur, he, h1, h2, h3⟩
  · cases h1
  · cases he
    exact .inr ⟨g, cap, cur, rfl, h1, by rw [hb.block g hg]; exact h2, h3⟩
theorem own_lit (w : World) (c : Int) : (w.alloc (.cells #[.int .u8 c] 5)).ownsRow w.heap.size 5 1 (.slice (some ⟨w.heap.size, 0, none⟩) 1 1) 1 (bs [c]) :=
  ⟨rfl, .inr ⟨w.heap.size, 1, #[.int .u8 c], rfl, Nat.le_refl _, heap_alloc_new w _, Nat.le_refl _, by decide, rfl, rfl⟩⟩
theorem row_some {w : World} {a : Option Addr} {zs : List Int} (h : Row w a zs) (hp : 1 ≤ zs.length) {m c : Nat} (ha : a = none) : m = 0 ∧ c = 0 := by
  rcases h.cells with rfl | ⟨b, off, h, _⟩
  · simp at hp
  · rw [ha] at h; cases h
/-- What stands behind the call of itself. -/
theorem rput_mid {w w2 : World} {c : Int} (hb2 : Below (w.alloc (.cells #[.int .u8 c] 5)).heap.size (w.alloc (.cells #[.int .u8 c] 5)) w2) :
    w2.ownsRow w.heap.size 5 1 (.slice (some ⟨w.heap.size, 0, none⟩) 1 1) 1 (bs [c]) ∧ Below w.heap.size w w2 := by
  have e : (w.alloc (.cells #[.int .u8 c] 5)).heap.size = w.heap.size + 1 := by simp
  exact ⟨own_belowN (own_lit w c) hb2 (by omega), ((Below.refl _ _).alloc (Nat.le_refl _) _).trans (hb2.mono (by omega))⟩
theorem rput_any (f : Nat) : ∀ (x : Int) (w : World), f ≤ 9 → Pl.Fits f x → 0 ≤ x → x ≤ 18446744073709551615 →
    Calls Tryz.prog 63 #[.int .u64 x] w fun e w' => ∃ a cap, e = .returned (.slice a (Pl.putF f x).length cap) ∧ Row w' a (Pl.putF f x) ∧ Below w.heap.size w w' := by
  induction f with
  | zero =>
    intro x w hf9 hf h0 h1
    have hlt := Pl.fits_zero hf
    have hm : x % 256 = x := by omega
    have HP : Hid (Pl.putF 0 x = [x]) := rfl
    have HB : Hid (∀ z ∈ [x], 0 ≤ z ∧ z ≤ 255) := fun z hz => by simp at hz; omega
    clear hf
    go_enter Tryz.func63, Tryz.ntmps63
    go_wp2_with fail
    go_ret
    exact ⟨_, _, rfl, row_of_own (own_lit w x) HB.out, (Below.refl _ _).alloc (Nat.le_refl _) _⟩
  | succ f ih =>
    intro x w hf9 hf h0 h1
    by_cases hlt : x < 128
    · have hm : x % 256 = x := by omega
      have HP : Hid (Pl.putF (f + 1) x = [x]) := Pl.put_last hlt
      have HB : Hid (∀ z ∈ [x], 0 ≤ z ∧ z ≤ 255) := fun z hz => by simp at hz; omega
      have IH : Hid _ := ih
      clear hf ih
      go_enter Tryz.func63, Tryz.ntmps63
      go_wp2_with fail
      go_ret
      refine ⟨some ⟨w.heap.size, 0, none⟩, 1, ?_, ?_, (Below.refl _ _).alloc (Nat.le_refl _) _⟩
      · rw [HP.out]; rfl
      · rw [HP.out]; exact row_of_own (own_lit w x) HB.out
    · have HP : Hid (Pl.putF (f + 1) x = (x % 128 + 128) :: Pl.putF f (x / 128)) := Pl.put_more (by omega)
      have IH : Hid (∀ w, Calls Tryz.prog 63 #[.int .u64 (x / 128)] w fun e w' => ∃ a cap, e = .returned (.slice a (Pl.putF f (x / 128)).length cap) ∧ Row w' a (Pl.putF f (x / 128)) ∧ Below w.heap.size w w') := fun w => ih (x / 128) w (by omega) (Pl.fits_step hf) (by omega) (by omega)
      have hlen := Pl.put_length_le f (x / 128)
      have hpos := Pl.put_length_pos f (x / 128)
      clear hf ih
      go_enter Tryz.func63, Tryz.ntmps63
      have HX : Hid (∀ z ∈ [x % 128 + 128], 0 ≤ z ∧ z ≤ 255) := fun z hz => by simp at hz; omega
      go_wp2_with (first | (go_at_call 63; refine (IH.out _).mono ?_; rintro e w2 ⟨a2, c2, rfl, hrow2, hb2⟩; have HM : Hid _ := rput_mid hb2; have HROW : Hid (Row w2 a2 (Pl.putF f (x / 128))) := hrow2; clear hrow2 hb2) | (at_builtin; refine wpList_append_on rfl (.tmp 12) (.tmp 15) rfl w.heap.size w HM.out.2 HM.out.2.size _ 1 [x % 128 + 128] (Pl.putF f (x / 128)) rfl HM.out.1 _ _ _ rfl HROW.out rfl (row_some HROW.out hpos) HX.out (by omega) ?_; intro a3 c3 w3 hown3 hb3))
      go_ret
      have e1 : (Pl.putF (f + 1) x).length = 1 + (Pl.putF f (x / 128)).length := by rw [HP.out, List.length_cons]; omega
      refine ⟨a3, c3, ?_, ?_, hb3⟩
      · rw [e1]; rfl
      · rw [HP.out]
        refine own_row (cap := c3) hown3 ?_
        intro z hz
        rcases List.mem_cons.1 hz with h | h
        · exact HX.out z (by rw [h]; simp)
        · exact HROW.out.bytes z h
end Go.Proofs.YtpnjcflfnoamoaaGreat

namespace Go.Proofs.YtpnjcflfnoamoaaGreat
set_option linter.unusedVariables false

/-! ### Reading -/
/-- A way to read: what is read, and what is left behind it. -/
abbrev Pr (α : Type) := List Int → Option (α × List Int)
def seqP {α β : Type} (p : Pr α) (f : α → Pr β) : Pr β := fun zs => match p zs with
  | none => none
  | some (a, r) => f a r
def retP {α : Type} (a : α) : Pr α := fun zs => some (a, zs)
def noneP {α : Type} : Pr α := fun _ => none
theorem seq_some {α β : Type} {p : Pr α} {f : α → Pr β} {zs r : List Int} {a : α} (h : p zs = some (a, r)) : seqP p f zs = f a r := by unfold seqP; rw [h]
theorem seq_none {α β : Type} {p : Pr α} {f : α → Pr β} {zs : List Int} (h : p zs = none) : seqP p f zs = none := by unfold seqP; rw [h]
/-- More behind is left where it is. -/
def Ext {α : Type} (p : Pr α) : Prop := ∀ zs a r m, p zs = some (a, r) → p (zs ++ m) = some (a, r ++ m)
theorem Ext.seq {α β : Type} {p : Pr α} {f : α → Pr β} (hp : Ext p) (hf : ∀ a, Ext (f a)) : Ext (seqP p f) := by
  intro zs b r m h
  cases e : p zs with
  | none => rw [seq_none e] at h; simp at h
  | some x =>
    obtain ⟨a, s⟩ := x
    rw [seq_some e] at h
    rw [seq_some (hp _ _ _ m e)]
    exact hf a _ _ _ m h
theorem Ext.ret {α : Type} (a : α) : Ext (retP a) := by
  intro zs b r m h
  simp [retP] at h
  obtain ⟨rfl, rfl⟩ := h
  rfl
theorem Ext.no {α : Type} : Ext (noneP (α := α)) := by intro zs b r m h; simp [noneP] at h

/-- A number. -/
def numP : Pr Int := fun zs => if (Pl.getI zs).2.2 = 0 then some ((Pl.getI zs).1, zs.drop (Pl.getI zs).2.1.toNat) else none
def byteP : Pr Int := fun zs => match zs with
  | [] => none
  | c :: r => some (c, r)
def bytesP (n : Int) : Pr (List Int) := fun zs => if (zs.length : Int) < n then none else some (zs.take n.toNat, zs.drop n.toNat)
def boolP : Pr Bool := seqP byteP fun c => if 1 < c then noneP else retP (decide (c = 1))
def stampP : Pr (Int × Int) := seqP numP fun v => if v < 9223372036854775808 then retP (v / 256, v % 256) else noneP
def countP (most : Int) : Pr Int := seqP numP fun v => if most < v then noneP else retP v
def textP : Pr (List Int) := seqP numP fun n => bytesP n
def writeP : Pr Wrt := seqP (bytesP 16) fun k => seqP boolP fun g => seqP textP fun v => retP ⟨k, v, g⟩
def manyP {α : Type} (p : Pr α) : Nat → Pr (List α)
  | 0 => retP []
  | n + 1 => seqP p fun a => seqP (manyP p n) fun l => retP (a :: l)
/-! ### Writing -/
def stpB (t n : Int) : List Int := Pl.putI (if okS t then t * 256 + n else 0)
def flagB (g : Bool) : Int := if g then 1 else 0
def txtB (v : List Int) : List Int := Pl.putI v.length ++ v
/-! ### More behind -/
theorem getF_ext (f : Nat) : ∀ (X : Int) (k : Nat) (zs m : List Int), (Pl.getF f X k zs).2.2 = 0 → Pl.getF f X k (zs ++ m) = Pl.getF f X k zs ∧ (k : Int) ≤ (Pl.getF f X k zs).2.1 ∧ (Pl.getF f X k zs).2.1 ≤ k + zs.length := by
  induction f with
  | zero => intro X k zs m h; simp [Pl.getF] at h
  | succ f ih =>
    intro X k zs m h
    cases zs with
    | nil => simp [Pl.getF] at h
    | cons c r =>
      show Pl.getF (f + 1) X k (c :: (r ++ m)) = _ ∧ _
      by_cases hc : c < 128
      · by_cases hg : Pl.goodB c k = true
        · rw [Pl.get_end hc hg, Pl.get_end hc hg]
          refine ⟨rfl, ?_, ?_⟩ <;> (simp; try omega)
        · rw [Pl.get_bad hc (by simpa using hg)] at h
          simp at h
      · rw [Pl.get_more (by omega)] at h ⊢
        rw [Pl.get_more (by omega)]
        obtain ⟨h1, h2, h3⟩ := ih _ _ r m h
        refine ⟨h1, ?_, ?_⟩
        · omega
        · simp only [List.length_cons]; omega
/-! ### What is written is read back -/
theorem num_back (v : Int) (r : List Int) (h0 : 0 ≤ v) (h1 : v ≤ 18446744073709551615) : numP (Pl.putI v ++ r) = some (v, r) := by
  unfold numP
  rw [Pl.get_put v r h0 h1]
  simp
theorem count_back {v n : Int} (r : List Int) (h0 : 0 ≤ v) (h1 : v ≤ n) (h2 : n ≤ 1000) : countP n (Pl.putI v ++ r) = some (v, r) := by
  unfold countP
  rw [seq_some (num_back v r h0 (by omega)), if_neg (by omega)]
  rfl
theorem bytes_back (l r : List Int) (n : Int) (h : n = l.length) : bytesP n (l ++ r) = some (l, r) := by
  unfold bytesP
  subst h
  rw [if_neg (by simp only [List.length_append]; omega)]
  simp
theorem bool_back (g : Bool) (r : List Int) : boolP (flagB g :: r) = some (g, r) := by
  unfold boolP
  rw [seq_some (show byteP (flagB g :: r) = some (flagB g, r) from rfl)]
  cases g <;> rfl
theorem stamp_back (t n : Int) (r : List Int) (h : okS t) (h0 : 0 ≤ n) (h1 : n ≤ 255) : stampP (stpB t n ++ r) = some ((t, n), r) := by
  unfold stampP stpB
  obtain ⟨a, b⟩ := h
  rw [if_pos ⟨a, b⟩, seq_some (num_back _ r (by omega) (by omega)), if_pos (by omega)]
  have e1 : (t * 256 + n) / 256 = t := by omega
  have e2 : (t * 256 + n) % 256 = n := by omega
  rw [e1, e2]
  rfl
theorem text_back (v r : List Int) (h : v.length ≤ 1000000) : textP (txtB v ++ r) = some (v, r) := by
  unfold textP txtB
  rw [List.append_assoc, seq_some (num_back _ _ (by omega) (by omega)), bytes_back _ _ _ rfl]
end Go.Proofs.YtpnjcflfnoamoaaGreat

namespace Go.Proofs.YtpnjcflfnoamoaaGreat
open Go.RowKit
set_option linter.unusedVariables false

theorem rpack6_any (t n : Int) (w : World) (hn : 0 ≤ n ∧ n ≤ 255) :
    Calls Tryz.prog 65 #[.agg #[.int .i64 t, .int .u8 n]] w fun e w' => e = .returned (.tuple #[.int .u64 (if okS t then t * 256 + n else 0), .bool (decide (okS t))]) ∧ Below w.heap.size w w' := by
  have CG : Hid (∀ w, Calls Tryz.prog 74 #[.agg #[.int .i64 t, .int .u8 n]] w fun e w' => e = .returned (.bool (decide (okS t))) ∧ Below w.heap.size w w') := fun w => rgood6_any t n w
  have HB : Hid (Below w.heap.size w (w.alloc (.cells #[.int .i64 t, .int .u8 n] 42))) := (Below.refl _ _).alloc (Nat.le_refl _) _
  have q0 : (w.alloc (.cells #[.int .i64 t, .int .u8 n] 42)).cell? ⟨w.heap.size, 0, none⟩ = some (.int .i64 t) := by rw [World.cell?_alloc_new]; rfl
  have q1 : (w.alloc (.cells #[.int .i64 t, .int .u8 n] 42)).cell? ⟨w.heap.size, 1, none⟩ = some (.int .u8 n) := by rw [World.cell?_alloc_new]; rfl
  have HQ : Hid (∀ u, Below (w.heap.size + 1) (w.alloc (.cells #[.int .i64 t, .int .u8 n] 42)) u → u.cell? ⟨w.heap.size, 0, none⟩ = some (.int .i64 t) ∧ u.cell? ⟨w.heap.size, 1, none⟩ = some (.int .u8 n)) := fun u hb => ⟨by rw [hb.cell (p := ⟨w.heap.size, 0, none⟩) (by simp)]; exact q0, by rw [hb.cell (p := ⟨w.heap.size, 1, none⟩) (by simp)]; exact q1⟩
  clear q0 q1
  by_cases h : okS t
  · rw [decide_eq_true h] at CG ⊢
    rw [if_pos h]
    obtain ⟨h0, h1⟩ := h
    go_enter Tryz.func65, Tryz.ntmps65
    go_wp2_with (go_at_call 74; refine (CG.out _).mono ?_; rintro e w1 ⟨rfl, hb1⟩; have B1 : Hid (Below w.heap.size w w1) := HB.out.trans (hb1.mono HB.out.size); have c0 := (HQ.out w1 (hb1.mono (by simp))).1; have c1 := (HQ.out w1 (hb1.mono (by simp))).2; clear hb1)
    go_ret2
    exact ⟨rfl, B1.out⟩
  · rw [decide_eq_false h] at CG ⊢
    rw [if_neg h]
    clear h
    go_enter Tryz.func65, Tryz.ntmps65
    go_wp2_with (go_at_call 74; refine (CG.out _).mono ?_; rintro e w1 ⟨rfl, hb1⟩; have B1 : Hid (Below w.heap.size w w1) := HB.out.trans (hb1.mono HB.out.size); clear hb1)
    go_ret2
    exact ⟨rfl, B1.out⟩
theorem runpack6_any (v : Int) (w : World) (hv : 0 ≤ v ∧ v ≤ 18446744073709551615) :
    Calls Tryz.prog 72 #[.int .u64 v] w fun e w' => e = .returned (.tuple #[.agg #[.int .i64 (if v < 9223372036854775808 then v / 256 else 0), .int .u8 (if v < 9223372036854775808 then v % 256 else 0)], .bool (decide (v < 9223372036854775808))]) ∧ Below w.heap.size w w' := by
  have HB : Hid (Below w.heap.size w (w.alloc (.cells #[.int .i64 0, .int .u8 0] 42))) := (Below.refl _ _).alloc (Nat.le_refl _) _
  by_cases h : v < 9223372036854775808
  · rw [if_pos h, if_pos h, decide_eq_true h]
    have q1 : v.tdiv 256 = v / 256 := td_pos hv.1
    have q2 : v.tmod 256 = v % 256 := tm_pos hv.1
    have q3 : v % 256 % 256 = v % 256 := by omega
    go_enter Tryz.func72, Tryz.ntmps72
    go_wp2
    go_returns
    exact ⟨rfl, (Below.refl _ _).alloc (Nat.le_refl _) _⟩
  · rw [if_neg h, if_neg h, decide_eq_false h]
    go_enter Tryz.func72, Tryz.ntmps72
    go_wp2
    go_returns
    exact ⟨rfl, HB.out⟩
/-- Two stamps that came in and a third that is to go out, each in a block of its own. -/
structure Three (w u : World) (t n t' n' : Int) : Prop where
  a0 : u.cell? ⟨w.heap.size, 0, none⟩ = some (.int .i64 t)
  a1 : u.cell? ⟨w.heap.size, 1, none⟩ = some (.int .u8 n)
  b0 : u.cell? ⟨w.heap.size + 1, 0, none⟩ = some (.int .i64 t')
  b1 : u.cell? ⟨w.heap.size + 1, 1, none⟩ = some (.int .u8 n')
  c0 : u.cell? ⟨w.heap.size + 2, 0, none⟩ = some (.int .i64 0)
  c1 : u.cell? ⟨w.heap.size + 2, 1, none⟩ = some (.int .u8 0)
  free : ∀ j, u.frozen? ⟨w.heap.size + 2, j, none⟩ = false
  below : Below w.heap.size w u
  lt : w.heap.size + 2 < u.heap.size
theorem Three.made (w : World) (T : TypeId) (t n t' n' : Int) : Three w (((w.alloc (.cells #[.int .i64 t, .int .u8 n] T)).alloc (.cells #[.int .i64 t', .int .u8 n'] T)).alloc (.cells #[.int .i64 0, .int .u8 0] T)) t n t' n' := by
  obtain ⟨u1, h1⟩ : ∃ u, u = w.alloc (.cells #[.int .i64 t, .int .u8 n] T) := ⟨_, rfl⟩
  obtain ⟨u2, h2⟩ : ∃ u, u = u1.alloc (.cells #[.int .i64 t', .int .u8 n'] T) := ⟨_, rfl⟩
  have s1 : u1.heap.size = w.heap.size + 1 := by rw [h1]; simp
  have s2 : u2.heap.size = w.heap.size + 2 := by rw [h2]; simp [s1]
  have a0 : u1.cell? ⟨w.heap.size, 0, none⟩ = some (.int .i64 t) := by rw [h1, World.cell?_alloc_new]; rfl
  have a1 : u1.cell? ⟨w.heap.size, 1, none⟩ = some (.int .u8 n) := by rw [h1, World.cell?_alloc_new]; rfl
  have b0 : u2.cell? ⟨w.heap.size + 1, 0, none⟩ = some (.int .i64 t') := by rw [h2, ← s1, World.cell?_alloc_new]; rfl
  have b1 : u2.cell? ⟨w.heap.size + 1, 1, none⟩ = some (.int .u8 n') := by rw [h2, ← s1, World.cell?_alloc_new]; rfl
  rw [← h1, ← h2]
  refine ⟨?_, ?_, ?_, ?_, ?_, ?_, fun j => ?_, ?_, by simp [s2]⟩
  · rw [World.cell?_alloc_lt _ _ _ (by show w.heap.size < _; omega), h2, World.cell?_alloc_lt _ _ _ (by show w.heap.size < _; omega)]; exact a0
  · rw [World.cell?_alloc_lt _ _ _ (by show w.heap.size < _; omega), h2, World.cell?_alloc_lt _ _ _ (by show w.heap.size < _; omega)]; exact a1
  · rw [World.cell?_alloc_lt _ _ _ (by show w.heap.size + 1 < _; omega)]; exact b0
  · rw [World.cell?_alloc_lt _ _ _ (by show w.heap.size + 1 < _; omega)]; exact b1
  · rw [← s2, World.cell?_alloc_new]; rfl
  · rw [← s2, World.cell?_alloc_new]; rfl
  · rw [← s2]; exact World.frozen?_alloc_new _ _ _ _
  · rw [h2, h1]; exact (((Below.refl _ _).alloc (Nat.le_refl _) _).alloc (by simp) _).alloc (by simp; omega) _
theorem Three.step {w u u' : World} {t n t' n' : Int} (h : Three w u t n t' n') (hb : Below u.heap.size u u') : Three w u' t n t' n' := by
  have l := h.lt
  refine ⟨?_, ?_, ?_, ?_, ?_, ?_, fun j => (hb.frozen (p := ⟨w.heap.size + 2, j, none⟩) (by show w.heap.size + 2 < _; omega)).trans (h.free j), h.below.trans (hb.mono h.below.size), Nat.lt_of_lt_of_le h.lt hb.size⟩
  · rw [hb.cell (p := ⟨w.heap.size, 0, none⟩) (by show w.heap.size < _; omega)]; exact h.a0
  · rw [hb.cell (p := ⟨w.heap.size, 1, none⟩) (by show w.heap.size < _; omega)]; exact h.a1
  · rw [hb.cell (p := ⟨w.heap.size + 1, 0, none⟩) (by show w.heap.size + 1 < _; omega)]; exact h.b0
  · rw [hb.cell (p := ⟨w.heap.size + 1, 1, none⟩) (by show w.heap.size + 1 < _; omega)]; exact h.b1
  · rw [hb.cell (p := ⟨w.heap.size + 2, 0, none⟩) (by show w.heap.size + 2 < _; omega)]; exact h.c0
  · rw [hb.cell (p := ⟨w.heap.size + 2, 1, none⟩) (by show w.heap.size + 2 < _; omega)]; exact h.c1
end Go.Proofs.YtpnjcflfnoamoaaGreat

