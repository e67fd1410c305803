/-
  Plain facts on integers, bits and lists: numbers in groups of seven bits, folded signs, cut bits. No program is named here.
  Records in bytes, as chapter 14 tells it: what is written, how it is read; what is written is read back, and nothing else has its bytes. No program is named here.
-/
import Derived.WalkKit
import Derived.Laws.BitsAllLaws
import Derived.Test.YtcppihpehipelaaAu49
namespace Go.Proofs.Ytcppihpehipelaa.Pl
open Go Go.RowKit

/-! ### Folded signs -/
/-! ### Cut bits -/
/-! ### Numbers in groups of seven bits -/
def Fits (f : Nat) (x : Int) : Prop := 0 ≤ x ∧ x < 2 * 128 ^ f
def goodB (c i : Int) : Bool := !(decide (0 < i) && c == 0) && (decide (i < 9) || c == 1)
def getF : Nat → Int → Nat → List Int → Int × Int × Int
  | 0, _, _, _ => (0, 0, 3)
  | _ + 1, _, _, [] => (0, 0, 3)
  | f + 1, X, k, c :: r => if c < 128 then (if goodB c k = true then (X + c * 2 ^ (7 * k), (k : Int) + 1, 0) else (0, 0, 3)) else getF f (X + c % 128 * 2 ^ (7 * k)) (k + 1) r
def getI (zs : List Int) : Int × Int × Int := getF 10 0 0 zs
end Go.Proofs.Ytcppihpehipelaa.Pl

namespace Go.Proofs.Ytcppihpehipelaa
set_option linter.unusedVariables false

/-! ### Reading -/
/-- A way to read: what is read, and what is left behind it. -/
abbrev Pr (α : Type) := List Int → Option (α × List Int)
def seqP {α β : Type} (p : Pr α) (f : α → Pr β) : Pr β := fun zs => match p zs with
  | none => none
  | some (a, r) => f a r
def retP {α : Type} (a : α) : Pr α := fun zs => some (a, zs)
def noneP {α : Type} : Pr α := fun _ => none
theorem seq_some {α β : Type} {p : Pr α} {f : α → Pr β} {zs r : List Int} {a : α} (h : p zs = some (a, r)) : seqP p f zs = f a r := by unfold seqP; rw [h]
theorem seq_none {α β : Type} {p : Pr α} {f : α → Pr β} {zs : List Int} (h : p zs = none) : seqP p f zs = none := by unfold seqP; rw [h]
/-- More behind is left where it is. -/
def Ext {α : Type} (p : Pr α) : Prop := ∀ zs a r m, p zs = some (a, r) → p (zs ++ m) = some (a, r ++ m)
theorem Ext.seq {α β : Type} {p : Pr α} {f : α → Pr β} (hp : Ext p) (hf : ∀ a, Ext (f a)) : Ext (seqP p f) := by
  intro zs b r m h
  cases e : p zs with
  | none => rw [seq_none e] at h; simp at h
  | some x =>
    obtain ⟨a, s⟩ := x
    rw [seq_some e] at h
    rw [seq_some (hp _ _ _ m e)]
    exact hf a _ _ _ m h
theorem Ext.ret {α : Type} (a : α) : Ext (retP a) := by
  intro zs b r m h
  simp [retP] at h
  obtain ⟨rfl, rfl⟩ := h
  rfl
theorem Ext.no {α : Type} : Ext (noneP (α := α)) := by intro zs b r m h; simp [noneP] at h

/-- A number. -/
def numP : Pr Int := fun zs => if (Pl.getI zs).2.2 = 0 then some ((Pl.getI zs).1, zs.drop (Pl.getI zs).2.1.toNat) else none
def byteP : Pr Int := fun zs => match zs with
  | [] => none
  | c :: r => some (c, r)
def bytesP (n : Int) : Pr (List Int) := fun zs => if (zs.length : Int) < n then none else some (zs.take n.toNat, zs.drop n.toNat)
def boolP : Pr Bool := seqP byteP fun c => if 1 < c then noneP else retP (decide (c = 1))
def stampP : Pr (Int × Int) := seqP numP fun v => if v < 9223372036854775808 then retP (v / 256, v % 256) else noneP
def countP (most : Int) : Pr Int := seqP numP fun v => if most < v then noneP else retP v
def textP : Pr (List Int) := seqP numP fun n => bytesP n
def writeP : Pr Wrt := seqP (bytesP 16) fun k => seqP boolP fun g => seqP textP fun v => retP ⟨k, v, g⟩
def manyP {α : Type} (p : Pr α) : Nat → Pr (List α)
  | 0 => retP []
  | n + 1 => seqP p fun a => seqP (manyP p n) fun l => retP (a :: l)
/-- A record. -/
structure Rcd where
  kd : Int
  id : Int
  s : Int
  m : Int
  t : Int
  n : Int
  l : List Wrt
  y : Bool
  ps : List Int
def upP : Int → List Int → Bool
  | _, [] => true
  | p, x :: r => decide (p < x ∧ 0 ≤ x ∧ x ≤ 7) && upP x r
def partsB (l : List Int) : Bool := upP (-1) l && decide (0 < l.length)
def plainR (r : Rcd) : Bool := decide (r.s = 0 ∧ r.m = 0) && decide (r.l.length = 0)
def bareR (r : Rcd) : Bool := plainR r && !r.y && decide (r.ps.length = 0)
def entR (r : Rcd) : Ent := ⟨r.id, r.s, r.m, r.t, r.n, r.l⟩
/-- May a record be? -/
def goodR (r : Rcd) : Bool :=
  if r.kd = 1 then goodE (entR r) && !r.y && decide (r.ps.length = 0)
  else if r.kd = 2 then decide (1 ≤ r.id) && bareR r && decide (okS r.t)
  else if r.kd = 3 then decide (1 ≤ r.id) && bareR r && decide (r.t = 0 ∧ r.n = 0)
  else if r.kd = 4 then decide (1 ≤ r.id) && plainR r && partsB r.ps && decide (okS r.t) && (r.y || decide (r.t = 0 ∧ r.n = 0))
  else if r.kd = 5 then decide (r.id = 0) && bareR r && decide (okS r.t) && decide (r.n = 0)
  else false
/-! ### Writing -/
/-! ### More behind -/
/-! ### What is written is read back -/
/-- What numbers and bytes a record may hold at all. -/
structure RcdOk (r : Rcd) : Prop where
  id0 : -9223372036854775808 ≤ r.id
  id1 : r.id ≤ 9223372036854775807
  m0 : 0 ≤ r.m
  m1 : r.m ≤ 255
  n0 : 0 ≤ r.n
  n1 : r.n ≤ 255
  keys : ∀ W ∈ r.l, Ky W.k
  vals : ∀ W ∈ r.l, ∀ z ∈ W.v, 0 ≤ z ∧ z ≤ 255
theorem upP_in : ∀ {l : List Int} {p : Int}, upP p l = true → ∀ x ∈ l, p < x ∧ 0 ≤ x ∧ x ≤ 7
  | [], p, h, x, hx => by simp at hx
  | a :: r, p, h, x, hx => by
    simp only [upP, Bool.and_eq_true, decide_eq_true_eq] at h
    rcases List.mem_cons.1 hx with rfl | hx
    · exact h.1
    · have := upP_in h.2 x hx
      omega
theorem upP_few : ∀ {l : List Int} {p : Int}, upP p l = true → -1 ≤ p → p ≤ 7 → (l.length : Int) ≤ 7 - p
  | [], p, h, h0, h1 => by simp; omega
  | a :: r, p, h, h0, h1 => by
    simp only [upP, Bool.and_eq_true, decide_eq_true_eq] at h
    have := upP_few h.2 (by omega) (by omega)
    simp only [List.length_cons]
    omega
theorem list_none {α : Type} {l : List α} (h : l.length = 0) : l = [] := List.length_eq_zero_iff.1 h
end Go.Proofs.Ytcppihpehipelaa

