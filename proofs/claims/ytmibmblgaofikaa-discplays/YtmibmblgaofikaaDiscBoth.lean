/-
  One act of a play of two clocks: the one that is asked, and the document's own.
-/
import Derived.Test.YtmibmblgaofikaaDiscTurn
namespace Go.Proofs.Ytmibmblgaofikaa
open Go.RowKit
set_option linter.unusedVariables false

theorem CkR.made (u : World) (T : TypeId) (node high off : Int) : CkR (u.alloc (.cells #[.int .u8 node, .int .i64 high, .int .i64 off] T)) u.heap.size node high off :=
  ⟨by rw [World.cell?_alloc_new]; rfl, by rw [World.cell?_alloc_new]; rfl, by rw [World.cell?_alloc_new]; rfl, fun j => World.frozen?_alloc_new _ _ _ _⟩
/-- Both clocks, and the act in its block. -/
structure Both (w u : World) (b rb xb : Nat) (node L off RL Ro p v : Int) (a : Option Addr) (m c : Nat) (t n : Int) : Prop where
  turn : Turn w u b xb node L off p v a m c t n
  rk : CkR u rb node RL Ro
  nb : rb ≠ b
  nx : rb ≠ xb
  base : w.heap.size ≤ rb
section
variable {w u u' : World} {b rb xb : Nat} {node L off RL Ro p v : Int} {a : Option Addr} {m c : Nat} {t n : Int}
theorem Both.went {L' off' : Int} (h : Both w u b rb xb node L off RL Ro p v a m c t n) (g : WentD u u' b node L' off') (l1 : -1 ≤ L') (l2 : L' ≤ 36028797018963967) (o1 : -1099511627776 ≤ off') (o2 : off' ≤ 1099511627776) : Both w u' b rb xb node L' off' RL Ro p v a m c t n :=
  ⟨h.turn.went g l1 l2 o1 o2, h.rk.kept g.grown (by have := h.nb; simp; omega), h.nb, h.nx, h.base⟩
theorem Both.rwent {L' off' : Int} (h : Both w u b rb xb node L off RL Ro p v a m c t n) (g : Went u u' rb node L' off') : Both w u' b rb xb node L off L' off' p v a m c t n := by
  have hk := g.grown.block xb h.turn.lt (by have := h.nx; simp; omega)
  have hp : Play w u' b node L off := ⟨h.turn.play.ck.kept g.grown (by have := h.nb; simp; omega), h.turn.play.base, h.turn.play.below.grown g.grown h.turn.play.below.size (fun k hk => by injection hk with hk; subst hk; exact h.base)⟩
  exact ⟨⟨hp, (World.cell?_of_block (a := ⟨xb, 0, none⟩) hk).trans h.turn.c0, (World.cell?_of_block (a := ⟨xb, 1, none⟩) hk).trans h.turn.c1, (World.cell?_of_block (a := ⟨xb, 2, none⟩) hk).trans h.turn.c2, (World.cell?_of_block (a := ⟨xb, 3, none⟩) hk).trans h.turn.c3, (World.cell?_of_block (a := ⟨xb, 4, none⟩) hk).trans h.turn.c4, h.turn.ne, h.turn.l1, h.turn.l2, h.turn.o1, h.turn.o2⟩, g.ck, h.nb, h.nx, h.base⟩
theorem Both.step (h : Both w u b rb xb node L off RL Ro p v a m c t n) (hb : Below u.heap.size u u') : Both w u' b rb xb node L off RL Ro p v a m c t n :=
  ⟨h.turn.step hb, h.rk.step hb, h.nb, h.nx, h.base⟩
theorem Both.past (h : Both w u b rb xb node L off RL Ro p v a m c t n) (o : Obj) : Both w (u.alloc o) b rb xb node L off RL Ro p v a m c t n := h.step ((Below.refl _ _).alloc (Nat.le_refl _) o)
theorem Both.made (T : TypeId) (h : Play w u b node L off) (rk : CkR u rb node RL Ro) (nb : rb ≠ b) (base : w.heap.size ≤ rb) (l1 : -1 ≤ L) (l2 : L ≤ 36028797018963967) (o1 : -1099511627776 ≤ off) (o2 : off ≤ 1099511627776) : Both w (u.alloc (.cells #[.int .i64 p, .int .i64 v, .slice a m c, .int .i64 t, .int .u8 n] T)) b rb u.heap.size node L off RL Ro p v a m c t n :=
  ⟨Turn.made T h l1 l2 o1 o2, rk.past _, nb, by have := rk.lt; omega, base⟩
theorem Both.issue (h : Both w u b rb xb node L off RL Ro p v a m c t n) (hl : L < 36028797018963967) (v1 : -9223372036854775808 ≤ v) (v2 : v ≤ 9223372036854775807) :
    Calls Try.prog 14 #[.pointer (some ⟨b, 0, none⟩), .int .i64 v] u fun e w' => e = .returned (.tuple #[.agg #[.int .i64 (issueN off L v), .int .u8 node], .int .i64 0]) ∧ Both w w' b rb xb node (issueN off L v) off RL Ro p v a m c t n :=
  (dissue_any b node L off v u h.turn.play.ck h.turn.o1 h.turn.o2 h.turn.l1 hl v1 v2).mono (by
    rintro e u' ⟨rfl, hg⟩
    have hr := issue_range (off := off) (raw := v) h.turn.l1 hl
    exact ⟨rfl, h.went hg (by omega) hr.2 h.turn.o1 h.turn.o2⟩)
theorem Both.spent (h : Both w u b rb xb node 36028797018963967 off RL Ro p v a m c t n) (v1 : -9223372036854775808 ≤ v) (v2 : v ≤ 9223372036854775807) :
    Calls Try.prog 14 #[.pointer (some ⟨b, 0, none⟩), .int .i64 v] u fun e w' => e = .returned (.tuple #[.agg #[.int .i64 0, .int .u8 0], .int .i64 12]) ∧ Both w w' b rb xb node 36028797018963967 off RL Ro p v a m c t n :=
  (dissue_spent b node off v u h.turn.play.ck v1 v2).mono (by rintro e u' ⟨rfl, hb⟩; exact ⟨rfl, h.step hb⟩)
theorem Both.read (h : Both w u b rb xb node L off RL Ro p v a m c t n) (v1 : -9223372036854775808 ≤ v) (v2 : v ≤ 9223372036854775807) :
    Calls Try.prog 12 #[.pointer (some ⟨b, 0, none⟩), .int .i64 v] u fun e w' => e = .returned (.int .i64 (readN off L v)) ∧ Both w w' b rb xb node L off RL Ro p v a m c t n :=
  (dread_any b node L off v u h.turn.play.ck h.turn.o1 h.turn.o2 h.turn.l1 h.turn.l2 v1 v2).mono (by rintro e u' ⟨rfl, hb⟩; exact ⟨rfl, h.step hb⟩)
theorem Both.high (h : Both w u b rb xb node L off RL Ro p v a m c t n) :
    Calls Try.prog 20 #[.pointer (some ⟨b, 0, none⟩)] u fun e w' => e = .returned (.int .i64 L) ∧ Both w w' b rb xb node L off RL Ro p v a m c t n :=
  (dhigh_any b node L off u h.turn.play.ck).mono (by rintro e u' ⟨rfl, hb⟩; exact ⟨rfl, h.step hb⟩)
theorem Both.offset (h : Both w u b rb xb node L off RL Ro p v a m c t n) :
    Calls Try.prog 15 #[.pointer (some ⟨b, 0, none⟩)] u fun e w' => e = .returned (.int .i64 off) ∧ Both w w' b rb xb node L off RL Ro p v a m c t n :=
  (doffset_any b node L off u h.turn.play.ck).mono (by rintro e u' ⟨rfl, hb⟩; exact ⟨rfl, h.step hb⟩)
theorem Both.see (h : Both w u b rb xb node L off RL Ro p v a m c t n) :
    Calls Try.prog 13 #[.pointer (some ⟨b, 0, none⟩), .agg #[.int .i64 t, .int .u8 n]] u fun e w' => e = .returned (.bool (decide (okT t ∧ L < t))) ∧ Both w w' b rb xb node (seeN L t) off RL Ro p v a m c t n :=
  (dsee_any b node L off t n u h.turn.play.ck h.turn.l1 h.turn.l2).mono (by
    rintro e u' ⟨rfl, hg⟩
    have hr := see_range (t := t) h.turn.l1 h.turn.l2
    exact ⟨rfl, h.went hg hr.1 hr.2 h.turn.o1 h.turn.o2⟩)
theorem Both.sample {zs : List Int} (h : Both w u b rb xb node L off RL Ro p v a m c t n) (hm : zs.length = m) (hc : m ≤ c) (hr : Row64 w a zs) :
    Calls Try.prog 11 #[.pointer (some ⟨b, 0, none⟩), .slice a m c] u fun e w' => e = .returned (.int .i64 (sampN off zs)) ∧ Both w w' b rb xb node L (sampN off zs) RL Ro p v a m c t n := by
  by_cases hi : 1 ≤ zs.length ∧ zs.length ≤ 64
  · have e : sampN off zs = midN zs := if_pos hi
    rw [e, ← hm]
    refine (dsample_in b node L off a c zs u h.turn.play.ck (hr.step h.turn.play.below) hi.1 hi.2 (by omega)).mono ?_
    rintro e u' ⟨rfl, hg⟩
    have hmr := mid_range zs (by intro h0; rw [h0] at hi; simp at hi)
    rw [hm]
    exact ⟨rfl, h.went hg h.turn.l1 h.turn.l2 hmr.1 hmr.2⟩
  · have e : sampN off zs = off := if_neg hi
    rw [e]
    refine (dsample_out b node L off a c m u h.turn.play.ck (by omega)).mono ?_
    rintro e u' ⟨rfl, hb⟩
    exact ⟨rfl, h.step hb⟩
theorem Both.rissue (h : Both w u b rb xb node L off RL Ro p v a m c t n) (o1 : -1099511627776 ≤ Ro) (o2 : Ro ≤ 1099511627776) (g1 : -1 ≤ RL) (g2 : RL < 36028797018963967) :
    Calls Try.prog 16 #[.pointer (some ⟨rb, 0, none⟩), .int .i64 v] u fun e w' => e = .returned (.tuple #[.agg #[.int .i64 (issueN Ro RL v), .int .u8 node], .int .i64 0]) ∧ Both w w' b rb xb node L off (issueN Ro RL v) Ro p v a m c t n :=
  (rissue_any rb node RL Ro v u h.rk o1 o2 g1 g2).mono (by rintro e u' ⟨rfl, hg⟩; exact ⟨rfl, h.rwent hg⟩)
theorem Both.rspent (h : Both w u b rb xb node L off 36028797018963967 Ro p v a m c t n) :
    Calls Try.prog 16 #[.pointer (some ⟨rb, 0, none⟩), .int .i64 v] u fun e w' => e = .returned (.tuple #[.agg #[.int .i64 0, .int .u8 0], .int .i64 12]) ∧ Both w w' b rb xb node L off 36028797018963967 Ro p v a m c t n :=
  (rissue_spent rb node Ro v u h.rk).mono (by rintro e u' ⟨rfl, hb⟩; exact ⟨rfl, h.step hb⟩)
theorem Both.rread (h : Both w u b rb xb node L off RL Ro p v a m c t n) (o1 : -1099511627776 ≤ Ro) (o2 : Ro ≤ 1099511627776) :
    Calls Try.prog 19 #[.pointer (some ⟨rb, 0, none⟩), .int .i64 v] u fun e w' => e = .returned (.int .i64 (readN Ro RL v)) ∧ Both w w' b rb xb node L off RL Ro p v a m c t n :=
  (rread_any rb node RL Ro v u h.rk o1 o2).mono (by rintro e u' ⟨rfl, rfl⟩; exact ⟨rfl, h⟩)
theorem Both.rsee (h : Both w u b rb xb node L off RL Ro p v a m c t n) :
    Calls Try.prog 18 #[.pointer (some ⟨rb, 0, none⟩), .agg #[.int .i64 t, .int .u8 n]] u fun e w' => e = .returned (.bool (decide (okT t ∧ RL < t))) ∧ Both w w' b rb xb node L off (seeN RL t) Ro p v a m c t n :=
  (rsee_any rb node RL Ro t n u h.rk).mono (by rintro e u' ⟨rfl, hg⟩; exact ⟨rfl, h.rwent hg⟩)
theorem Both.rsample {zs : List Int} (h : Both w u b rb xb node L off RL Ro p v a m c t n) (hm : zs.length = m) (hr : Row64 w a zs) :
    Calls Try.prog 17 #[.pointer (some ⟨rb, 0, none⟩), .slice a m c] u fun e w' => e = .returned (.int .i64 (sampN Ro zs)) ∧ Both w w' b rb xb node L off RL (sampN Ro zs) p v a m c t n := by
  by_cases hi : 1 ≤ zs.length ∧ zs.length ≤ 64
  · have e : sampN Ro zs = midN zs := if_pos hi
    rw [e, ← hm]
    refine (rsample_in rb node RL Ro a c zs u h.rk (hr.step h.turn.play.below) hi.1 hi.2).mono ?_
    rintro e u' ⟨rfl, hg⟩
    rw [hm]
    exact ⟨rfl, h.rwent hg⟩
  · have e : sampN Ro zs = Ro := if_neg hi
    rw [e]
    refine (rsample_out rb node RL Ro a c m u h.rk (by omega)).mono ?_
    rintro e u' ⟨rfl, rfl⟩
    exact ⟨rfl, h⟩
end
end Go.Proofs.Ytmibmblgaofikaa
