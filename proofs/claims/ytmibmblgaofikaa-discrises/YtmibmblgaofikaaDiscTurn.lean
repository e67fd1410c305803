/-
  One act of a play: the act's copy in a block of its own, the clock beside it, and what each call makes of both.
-/
import Derived.Test.YtmibmblgaofikaaDiscPlay
namespace Go.Proofs.Ytmibmblgaofikaa
open Go.RowKit
set_option linter.unusedVariables false

/-- The clock, and the act in its block. -/
structure Turn (w u : World) (b xb : Nat) (node L off p v : Int) (a : Option Addr) (m c : Nat) (t n : Int) : Prop where
  play : Play w u b node L off
  c0 : u.cell? ⟨xb, 0, none⟩ = some (.int .i64 p)
  c1 : u.cell? ⟨xb, 1, none⟩ = some (.int .i64 v)
  c2 : u.cell? ⟨xb, 2, none⟩ = some (.slice a m c)
  c3 : u.cell? ⟨xb, 3, none⟩ = some (.int .i64 t)
  c4 : u.cell? ⟨xb, 4, none⟩ = some (.int .u8 n)
  ne : b ≠ xb
  l1 : -1 ≤ L
  l2 : L ≤ 36028797018963967
  o1 : -1099511627776 ≤ off
  o2 : off ≤ 1099511627776
section
variable {w u u' : World} {b xb : Nat} {node L off p v : Int} {a : Option Addr} {m c : Nat} {t n : Int}
theorem Turn.lt (h : Turn w u b xb node L off p v a m c t n) : xb < u.heap.size := lt_of_cell h.c0
theorem Turn.went {L' off' : Int} (h : Turn w u b xb node L off p v a m c t n) (g : WentD u u' b node L' off') (l1 : -1 ≤ L') (l2 : L' ≤ 36028797018963967) (o1 : -1099511627776 ≤ off') (o2 : off' ≤ 1099511627776) : Turn w u' b xb node L' off' p v a m c t n := by
  have hk := g.grown.block xb h.lt (by have := h.ne; simp; omega)
  exact ⟨h.play.went g, (World.cell?_of_block (a := ⟨xb, 0, none⟩) hk).trans h.c0, (World.cell?_of_block (a := ⟨xb, 1, none⟩) hk).trans h.c1, (World.cell?_of_block (a := ⟨xb, 2, none⟩) hk).trans h.c2, (World.cell?_of_block (a := ⟨xb, 3, none⟩) hk).trans h.c3, (World.cell?_of_block (a := ⟨xb, 4, none⟩) hk).trans h.c4, h.ne, l1, l2, o1, o2⟩
theorem Turn.step (h : Turn w u b xb node L off p v a m c t n) (hb : Below u.heap.size u u') : Turn w u' b xb node L off p v a m c t n :=
  h.went ⟨(h.play.step hb).ck, grown_of_below hb _⟩ h.l1 h.l2 h.o1 h.o2
theorem Turn.past (h : Turn w u b xb node L off p v a m c t n) (o : Obj) : Turn w (u.alloc o) b xb node L off p v a m c t n := h.step ((Below.refl _ _).alloc (Nat.le_refl _) o)
theorem Turn.made (T : TypeId) (h : Play w u b node L off) (l1 : -1 ≤ L) (l2 : L ≤ 36028797018963967) (o1 : -1099511627776 ≤ off) (o2 : off ≤ 1099511627776) : Turn w (u.alloc (.cells #[.int .i64 p, .int .i64 v, .slice a m c, .int .i64 t, .int .u8 n] T)) b u.heap.size node L off p v a m c t n := by
  have hb := h.ck.lt
  exact ⟨h.past _, by rw [World.cell?_alloc_new]; rfl, by rw [World.cell?_alloc_new]; rfl, by rw [World.cell?_alloc_new]; rfl, by rw [World.cell?_alloc_new]; rfl, by rw [World.cell?_alloc_new]; rfl, by omega, l1, l2, o1, o2⟩
theorem Turn.issue (h : Turn w u b xb node L off p v a m c t n) (hl : L < 36028797018963967) (v1 : -9223372036854775808 ≤ v) (v2 : v ≤ 9223372036854775807) :
    Calls Try.prog 14 #[.pointer (some ⟨b, 0, none⟩), .int .i64 v] u fun e w' => e = .returned (.tuple #[.agg #[.int .i64 (issueN off L v), .int .u8 node], .int .i64 0]) ∧ Turn w w' b xb node (issueN off L v) off p v a m c t n :=
  (dissue_any b node L off v u h.play.ck h.o1 h.o2 h.l1 hl v1 v2).mono (by
    rintro e u' ⟨rfl, hg⟩
    have hr := issue_range (off := off) (raw := v) h.l1 hl
    exact ⟨rfl, h.went hg (by omega) hr.2 h.o1 h.o2⟩)
theorem Turn.spent (h : Turn w u b xb node 36028797018963967 off p v a m c t n) (v1 : -9223372036854775808 ≤ v) (v2 : v ≤ 9223372036854775807) :
    Calls Try.prog 14 #[.pointer (some ⟨b, 0, none⟩), .int .i64 v] u fun e w' => e = .returned (.tuple #[.agg #[.int .i64 0, .int .u8 0], .int .i64 12]) ∧ Turn w w' b xb node 36028797018963967 off p v a m c t n :=
  (dissue_spent b node off v u h.play.ck v1 v2).mono (by rintro e u' ⟨rfl, hb⟩; exact ⟨rfl, h.step hb⟩)
theorem Turn.read (h : Turn w u b xb node L off p v a m c t n) (v1 : -9223372036854775808 ≤ v) (v2 : v ≤ 9223372036854775807) :
    Calls Try.prog 12 #[.pointer (some ⟨b, 0, none⟩), .int .i64 v] u fun e w' => e = .returned (.int .i64 (readN off L v)) ∧ Turn w w' b xb node L off p v a m c t n :=
  (dread_any b node L off v u h.play.ck h.o1 h.o2 h.l1 h.l2 v1 v2).mono (by rintro e u' ⟨rfl, hb⟩; exact ⟨rfl, h.step hb⟩)
theorem Turn.high (h : Turn w u b xb node L off p v a m c t n) :
    Calls Try.prog 20 #[.pointer (some ⟨b, 0, none⟩)] u fun e w' => e = .returned (.int .i64 L) ∧ Turn w w' b xb node L off p v a m c t n :=
  (dhigh_any b node L off u h.play.ck).mono (by rintro e u' ⟨rfl, hb⟩; exact ⟨rfl, h.step hb⟩)
theorem Turn.offset (h : Turn w u b xb node L off p v a m c t n) :
    Calls Try.prog 15 #[.pointer (some ⟨b, 0, none⟩)] u fun e w' => e = .returned (.int .i64 off) ∧ Turn w w' b xb node L off p v a m c t n :=
  (doffset_any b node L off u h.play.ck).mono (by rintro e u' ⟨rfl, hb⟩; exact ⟨rfl, h.step hb⟩)
theorem see_range {L t : Int} (l1 : -1 ≤ L) (l2 : L ≤ 36028797018963967) : -1 ≤ seeN L t ∧ seeN L t ≤ 36028797018963967 := by
  unfold seeN okT
  split <;> omega
theorem Turn.see (h : Turn w u b xb node L off p v a m c t n) :
    Calls Try.prog 13 #[.pointer (some ⟨b, 0, none⟩), .agg #[.int .i64 t, .int .u8 n]] u fun e w' => e = .returned (.bool (decide (okT t ∧ L < t))) ∧ Turn w w' b xb node (seeN L t) off p v a m c t n :=
  (dsee_any b node L off t n u h.play.ck h.l1 h.l2).mono (by
    rintro e u' ⟨rfl, hg⟩
    have hr := see_range (t := t) h.l1 h.l2
    exact ⟨rfl, h.went hg hr.1 hr.2 h.o1 h.o2⟩)
/-- What a sample leaves as the offset. -/
def sampN (off : Int) (zs : List Int) : Int := if 1 ≤ zs.length ∧ zs.length ≤ 64 then midN zs else off
theorem Turn.sample {zs : List Int} (h : Turn w u b xb node L off p v a m c t n) (hm : zs.length = m) (hc : m ≤ c) (hr : Row64 w a zs) :
    Calls Try.prog 11 #[.pointer (some ⟨b, 0, none⟩), .slice a m c] u fun e w' => e = .returned (.int .i64 (sampN off zs)) ∧ Turn w w' b xb node L (sampN off zs) p v a m c t n := by
  by_cases hi : 1 ≤ zs.length ∧ zs.length ≤ 64
  · have e : sampN off zs = midN zs := if_pos hi
    rw [e, ← hm]
    refine (dsample_in b node L off a c zs u h.play.ck (hr.step h.play.below) hi.1 hi.2 (by omega)).mono ?_
    rintro e u' ⟨rfl, hg⟩
    have hmr := mid_range zs (by intro h0; rw [h0] at hi; simp at hi)
    rw [hm]
    exact ⟨rfl, h.went hg h.l1 h.l2 hmr.1 hmr.2⟩
  · have e : sampN off zs = off := if_neg hi
    rw [e]
    refine (dsample_out b node L off a c m u h.play.ck (by omega)).mono ?_
    rintro e u' ⟨rfl, hb⟩
    exact ⟨rfl, h.step hb⟩
/-- The document's own question whether a stamp may be, beside it. -/
theorem Turn.good (h : Turn w u b xb node L off p v a m c t n) :
    Calls Try.prog 21 #[.agg #[.int .i64 t, .int .u8 n]] u fun e w' => e = .returned (.bool (decide (okT t))) ∧ Turn w w' b xb node L off p v a m c t n :=
  (rgood7_any t n u).mono (by rintro e u' ⟨rfl, hb⟩; exact ⟨rfl, h.step hb⟩)
end
end Go.Proofs.Ytmibmblgaofikaa
