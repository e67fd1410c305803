/-
  The document's own GetWrites.
-/
import Derived.Test.YtmiafadmcpmjgaaRefRd7
namespace Go.Proofs.Ytmiafadmcpmjgaa
open Go.RowKit
set_option linter.unusedVariables false

theorem st_some {zs r : List Int} {k : Nat} {b : Bool} (h : stR zs k b = some r) (hk : k ≤ zs.length) : b = false ∧ r = zs.drop k ∧ k = zs.length - r.length := by
  cases b with
  | true => simp [stR] at h
  | false =>
    have e : r = zs.drop k := by unfold stR at h; simp at h; exact h.symm
    refine ⟨rfl, e, ?_⟩
    rw [e, List.length_drop]
    omega
theorem st_none {zs : List Int} {k : Nat} {b : Bool} (h : stR zs k b = none) : b = true := by
  cases b with
  | true => rfl
  | false => simp [stR] at h
/-- What GetWrites answers. -/
structure GotW (w' : World) (zs : List Int) (e : Ending) : Prop where
  no : writesP zs = none → e = .returned (.tuple #[.slice none 0 0, .int .i64 0, .bool false])
  yes : ∀ l r, writesP zs = some (l, r) → ∃ ax n cx, e = .returned (.tuple #[.slice ax n cx, .int .i64 ((zs.length - r.length : Nat) : Int), .bool true]) ∧ l.length = n ∧ n ≤ 16 ∧ n ≤ cx ∧ WrtsAt w' ax l
theorem rgetw14_any (a : Option Addr) (cap : Nat) (zs : List Int) (w : World) (hr : Row w a zs) (hc : zs.length ≤ cap) (hm : zs.length ≤ 1099511627776) :
    Calls Try.prog 22 #[.slice a zs.length cap] w fun e w' => GotW w' zs e ∧ Below w.heap.size w w' := by
  have H : Hid (Rd (w.alloc (.cells #[.slice a zs.length cap, .int .i64 0, .bool false] 80)) w.heap.size a cap zs 0 false) := Rd.made w _ hr hc hm
  have HB : Hid (Below w.heap.size w (w.alloc (.cells #[.slice a zs.length cap, .int .i64 0, .bool false] 80))) := (Below.refl _ _).alloc (Nat.le_refl _) _
  obtain ⟨len, hl⟩ : ∃ len, len = zs.length := ⟨_, rfl⟩
  have HL : Hid (len = zs.length) := hl
  rw [← hl] at H HB ⊢
  clear hr hc hm hl
  go_enter Try.func22, Try.ntmps22
  go_wp2_with (first | (go_at_call 46; refine (rwrites14_any w.heap.size a cap zs 0 false _ H.out).mono ?_; rintro e w1 ⟨ax, n, cx, l, rfl, l1, l2, l3, l4, l5, ⟨⟨k1, b1, R1, C1, D1⟩⟩⟩; have c1 := R1.c1; have c2 := R1.c2; have HW : Hid (WrtsAt w1 ax l) := l4; have HR1 : Hid (Rd w1 w.heap.size a cap zs k1 b1) := R1; have HC1 : Hid (Below w.heap.size w w1) := HB.out.trans (C1.below (by simp) (fun j e => by rw [e]; exact Nat.le_refl _)); have HD1 : Hid (Rds writesP (stR zs 0 false) (stR zs k1 b1) l) := D1; clear R1 C1 D1 l4 l5))
  · go_returns
    rename_i hb
    refine ⟨⟨fun _ => rfl, fun l' r e => ?_⟩, HC1.out⟩
    rcases Rds.cases (zs := zs) HD1.out with ⟨e1, _⟩ | ⟨r1, _, e1⟩
    · rw [e] at e1; cases e1
    · rw [hb] at e1; simp [stR] at e1
  · rename_i hb _ _
    have HBF : Hid (b1 = false) := hb
    clear hb
    go_quiet (fail)
    go_wp2
    go_returns
    refine ⟨⟨fun e => ?_, fun l' r e => ?_⟩, below_dN HC1.out _⟩
    · rcases Rds.cases (zs := zs) HD1.out with ⟨_, e1⟩ | ⟨r1, e1, _⟩
      · rw [HBF.out] at e1; simp [stR] at e1
      · rw [e] at e1; cases e1
    · rcases Rds.cases (zs := zs) HD1.out with ⟨e1, _⟩ | ⟨r1, e1, e2⟩
      · rw [e] at e1; cases e1
      · rw [e] at e1
        injection e1 with e1
        injection e1 with e3 e4
        subst e3
        subst e4
        have hk := (st_some e2 HR1.out.len).2.2
        exact ⟨ax, n, cx, by rw [← hk]; rfl, l1, l2, l3, HW.out.past (below_dN (Below.refl _ _) _)⟩
end Go.Proofs.Ytmiafadmcpmjgaa
