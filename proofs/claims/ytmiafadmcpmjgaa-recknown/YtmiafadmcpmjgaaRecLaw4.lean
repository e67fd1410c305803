/-
  What RecKnown asks, reckoned; what lies in memory ahead of its last look.
-/
import Derived.Test.YtmiafadmcpmjgaaLa
import Derived.Test.YtmiafadmcpmjgaaWrtBuild
namespace Go.Proofs.Ytmiafadmcpmjgaa
open Go.RowKit
set_option linter.unusedVariables false
set_option linter.unusedSimpArgs false

def knKA : List Int := [97, 0, 0, 0, 0, 0, 0, 0, 0, 0, 0, 0, 0, 0, 0, 0]
def knKB : List Int := [98, 0, 0, 0, 0, 0, 0, 0, 0, 0, 0, 0, 0, 0, 0, 0]
theorem knKA_ky : Ky knKA := ⟨by decide, by decide⟩
theorem knKB_ky : Ky knKB := ⟨by decide, by decide⟩
def knWA : Wrt := ⟨knKA, [120], false⟩
def knWB : Wrt := ⟨knKB, [], true⟩
def knW : List Wrt := [knWA, knWB]
theorem knW_oks : ∀ W ∈ knW, WrtOk W := by
  intro W hW
  have h : W = knWA ∨ W = knWB := by simpa [knW] using hW
  rcases h with rfl | rfl
  · exact ⟨knKA_ky, by decide, by decide⟩
  · exact ⟨knKB_ky, by decide, by decide⟩
theorem knW_vals : ∀ W ∈ knW, W.v.length ≤ 1000 := by
  intro W hW
  have h : W = knWA ∨ W = knWB := by simpa [knW] using hW
  rcases h with rfl | rfl <;> decide
theorem knB_len : (wrtsB knW).length = 38 := by decide +kernel
theorem knB_bys : Bys (wrtsB knW) := wrtsB_bytes (fun W hW => ⟨knW_oks W hW, knW_vals W hW⟩) (by decide)
theorem knW_may : mayW knW 0 = true := by decide +kernel
theorem knB_get : getWL (wrtsB knW ++ [9]) = some (knW, [9]) := by
  rw [getWL_eq (knB_bys.app (fun z hz => by simp at hz; omega))]
  exact writes_back knW [9] knW_may (fun W hW => (knW_oks W hW).key)
theorem kn07 : getWL [0, 7] = some ([], [7]) := by kernel_rfl
theorem kn1 : getWL [1] = none := by kernel_rfl
theorem kn_nil : getL [] = none := by kernel_rfl
theorem kn320 : getL [3, 2, 0] = none := by kernel_rfl
theorem lGetWs_ok (a : Option Addr) (cap len : Nat) (zs : List Int) (w : World) (hr : Row w a zs) (hl : zs.length = len) (hc : len ≤ cap) (hm : len ≤ 1000000) (l : List Wrt) (r : List Int) (hg : getWL zs = some (l, r)) (N : Nat) (hN : l.length = N) (n : Int) (hn : n = (zs.length : Int) - r.length) :
    Calls Try.prog 10 #[.slice a len cap] w fun e w' => ∃ (ax : Option Addr) (cx : Nat), e = .returned (.tuple #[.slice ax N cx, .int .i64 n, .int .i64 0]) ∧ N ≤ cx ∧ WrtsAt w' ax l ∧ Below w.heap.size w w' := by
  refine (lGetWs_any a cap len zs w hr hl hc hm).mono ?_
  rintro e w' ⟨ax, N', cx, l', n', E, rfl, h1, h2, h3, h4, h5, ⟨r', h6, h7, h8⟩ | ⟨h6, _⟩⟩
  · rw [hg] at h6
    simp only [Option.some.injEq, Prod.mk.injEq] at h6
    obtain ⟨rfl, rfl⟩ := h6
    subst h8
    rw [hN] at h1
    subst h1
    rw [← hn] at h7
    subst h7
    exact ⟨ax, cx, rfl, h2, h4, h5⟩
  · rw [hg] at h6; simp at h6
theorem lGetWs_no (a : Option Addr) (cap len : Nat) (zs : List Int) (w : World) (hr : Row w a zs) (hl : zs.length = len) (hc : len ≤ cap) (hm : len ≤ 1000000) (hg : getWL zs = none) :
    Calls Try.prog 10 #[.slice a len cap] w fun e w' => ∃ (ax : Option Addr) (cx : Nat), e = .returned (.tuple #[.slice ax 0 cx, .int .i64 0, .int .i64 3]) ∧ Below w.heap.size w w' := by
  refine (lGetWs_any a cap len zs w hr hl hc hm).mono ?_
  rintro e w' ⟨ax, N', cx, l', n', E, rfl, h1, h2, h3, h4, h5, ⟨r', h6, h7, h8⟩ | ⟨h6, rfl, rfl, rfl⟩⟩
  · rw [hg] at h6; simp at h6
  · subst h1
    exact ⟨ax, cx, rfl, h5⟩
theorem kn_ints (u : World) (x y : Int) (hx : -9223372036854775808 ≤ x ∧ x ≤ 9223372036854775807) (hy : -9223372036854775808 ≤ y ∧ y ≤ 9223372036854775807) (q : Nat) (hq : q = u.heap.size) : IntsAt (u.alloc (.cells #[.int .i64 x, .int .i64 y] 3)) (some ⟨q, 0, none⟩) [x, y] := by
  subst hq
  refine ⟨.inr ⟨_, 0, rfl, fun j hj => ?_⟩, fun z hz => by simp at hz; omega⟩
  have hj' : j = 0 ∨ j = 1 := by simp at hj; omega
  rcases hj' with rfl | rfl <;> (rw [World.cell?_alloc_new]; rfl)
theorem row_three (u : World) (x y z : Int) (hx : 0 ≤ x ∧ x ≤ 255) (hy : 0 ≤ y ∧ y ≤ 255) (hz : 0 ≤ z ∧ z ≤ 255) (q : Nat) (hq : q = u.heap.size) : Row (u.alloc (.cells #[.int .u8 x, .int .u8 y, .int .u8 z] 5)) (some ⟨q, 0, none⟩) [x, y, z] := by
  subst hq
  refine ⟨fun z hz => by simp at hz; omega, .inr ⟨_, 0, rfl, fun j hj => ?_⟩⟩
  have hj' : j = 0 ∨ j = 1 ∨ j = 2 := by simp at hj; omega
  rcases hj' with rfl | rfl | rfl <;> (rw [World.cell?_alloc_new]; rfl)
/-- A record without writes, with up to a thousand parts: may it be? -/
theorem kn_good (u : World) (kd id t n : Int) (pa : Option Addr) (ps : List Int) (M pc : Nat) (h : IntsAt u pa ps) (hM : ps.length = M) (hpc : M ≤ pc) (h9 : M ≤ 1000) (hk : -9223372036854775808 ≤ kd ∧ kd ≤ 9223372036854775807) (hi : -9223372036854775808 ≤ id ∧ id ≤ 9223372036854775807) (hn : 0 ≤ n ∧ n ≤ 255) (b : Bool) (hb : goodR ⟨kd, id, 0, 0, t, n, [], false, ps⟩ = b) :
    Calls Try.prog 11 #[.agg #[.int .i64 kd, .int .i64 id, .int .i64 0, .int .u8 0, .int .i64 t, .int .u8 n, .slice none 0 0, .bool false, .slice pa M pc]] u fun e w' => e = .returned (.bool b) ∧ Below u.heap.size u w' := by
  have h2 := lgood_any ⟨⟨kd, id, 0, 0, t, n, [], false, ps⟩, none, 0, pa, pc⟩ u ⟨WrtsAt.none _ _, Nat.zero_le _, Nat.zero_le _, h, by show ps.length ≤ pc; omega, by show ps.length ≤ 1000; omega, hk, ⟨hi.1, hi.2, by simp, by simp, hn.1, hn.2, fun W hW => by simp at hW, fun W hW => by simp at hW⟩⟩
  unfold rcv encR at h2
  simp only [List.length_nil, hM] at h2
  rw [hb] at h2
  exact h2
theorem kn_putg (u : World) : Calls Try.prog 12 #[.agg #[.int .i64 3, .int .i64 1, .int .i64 0, .int .u8 0, .int .i64 5, .int .u8 1, .slice none 0 0, .bool false, .slice none 0 0]] u fun e w' => ∃ a c, e = .returned (.slice a 0 c) ∧ Below u.heap.size u w' := by
  have hb : recB ⟨3, 1, 0, 0, 5, 1, [], false, []⟩ = [] := by decide
  have h2 := lput_rec ⟨⟨3, 1, 0, 0, 5, 1, [], false, []⟩, none, 0, none, 0⟩ u (rc_none u 3 1 0 0 5 1 false (by omega) (by omega) (by omega) (by omega)) (by simp) (by simp) (fun W hW => by simp at hW)
  unfold rcv encR at h2
  simp only [List.length_nil] at h2
  rw [hb] at h2
  refine h2.mono ?_
  rintro e w' ⟨a, c, rfl, _, h3⟩
  exact ⟨a, c, rfl, h3⟩
/-- A stamp's cells, there since w. -/
structure KnA (w u : World) (p : Nat) : Prop where
  below : Below w.heap.size w u
  lt : p < u.heap.size
  c0 : u.cell? ⟨p, 0, none⟩ = some (.int .i64 5)
  c1 : u.cell? ⟨p, 1, none⟩ = some (.int .u8 1)
theorem KnA.past {w u u' : World} {p : Nat} (h : KnA w u p) (hb : Below u.heap.size u u') : KnA w u' p :=
  ⟨h.below.trans (hb.mono h.below.size), Nat.lt_of_lt_of_le h.lt hb.size, (cell_of_block (hb.block p h.lt) 0).1.trans h.c0, (cell_of_block (hb.block p h.lt) 1).1.trans h.c1⟩
theorem KnA.made {w u : World} (h : Below w.heap.size w u) : KnA w (u.alloc (.cells #[.int .i64 5, .int .u8 1] 24)) u.heap.size :=
  ⟨h.alloc h.size _, by simp, by rw [World.cell?_alloc_new]; rfl, by rw [World.cell?_alloc_new]; rfl⟩
theorem KnA.new {w u : World} {p : Nat} (h : KnA w u p) (o : Obj) : KnA w (u.alloc o) p := h.past ((Below.refl _ _).alloc (Nat.le_refl _) _)
/-- The boxes of RecKnown, there since w. -/
structure KnV (w V : World) (q : Nat) : Prop where
  below : Below w.heap.size w V
  c : RBox V (q + 1 + 1) 4 1 0 0 0 0 none 0 0 false (some ⟨q + 1, 0, none⟩) 2 2
  d : RBox V (q + 1 + 1 + 1) 4 1 0 0 5 1 none 0 0 false (some ⟨q + 1, 0, none⟩) 2 2
  f : RBox V (q + 1 + 1 + 1 + 1) 5 0 0 0 9 0 none 0 0 false none 0 0
  g : RBox V (q + 1 + 1 + 1 + 1 + 1) 3 1 0 0 5 1 none 0 0 false none 0 0
  ps : IntsAt V (some ⟨q + 1, 0, none⟩) [0, 2]
  ws : WrtsAt V (some ⟨q + 1 + 1 + 1 + 1 + 1 + 1, 0, none⟩) knW
theorem KnV.past {w u u' : World} {q : Nat} (h : KnV w u q) (hb : Below u.heap.size u u') : KnV w u' q :=
  ⟨h.below.trans (hb.mono h.below.size), h.c.past hb, h.d.past hb, h.f.past hb, h.g.past hb, h.ps.past hb, h.ws.past hb⟩
abbrev knC (q : Nat) : Array Value := #[.int .i64 4, .int .i64 1, .int .i64 0, .int .u8 0, .int .i64 0, .int .u8 0, .slice none 0 0, .bool false, .slice (some ⟨q + 1, 0, none⟩) 2 2]
abbrev knZ : Array Value := #[.int .i64 0, .int .i64 0, .int .i64 0, .int .u8 0, .int .i64 0, .int .u8 0, .slice none 0 0, .bool false, .slice none 0 0]
abbrev knF : Array Value := #[.int .i64 5, .int .i64 0, .int .i64 0, .int .u8 0, .int .i64 9, .int .u8 0, .slice none 0 0, .bool false, .slice none 0 0]
abbrev knG : Array Value := #[.int .i64 3, .int .i64 1, .int .i64 0, .int .u8 0, .int .i64 5, .int .u8 1, .slice none 0 0, .bool false, .slice none 0 0]
abbrev knD (q : Nat) : Array Value := #[.int .i64 4, .int .i64 1, .int .i64 0, .int .u8 0, .int .i64 5, .int .u8 1, .slice none 0 0, .bool false, .slice (some ⟨q + 1, 0, none⟩) 2 2]
abbrev knW1 (v : World) : World := (((v.alloc (.cells knZ 28)).alloc (.cells #[.int .i64 0, .int .i64 2] 3)).alloc (.cells (knC v.heap.size) 28)).alloc (.cells (knC v.heap.size) 28)
abbrev knW2 (v : World) : World := ((((v.alloc (.cells knZ 28)).alloc (.cells #[.int .i64 0, .int .i64 2] 3)).alloc (.cells (knC v.heap.size) 28)).alloc (.cells (knD v.heap.size) 28)).alloc (.cells knF 28)
abbrev knW3 (v : World) : World := ((knW2 v).alloc (.cells knG 28)).alloc (.cells (encW knWA ++ encW knWB).toArray 36)
theorem kn_w1 {w v : World} {p : Nat} (h : KnA w v p) : KnA w (knW1 v) p := (((h.new _).new _).new _).new _
theorem kn_w2 {w v : World} {p : Nat} (h : KnA w v p) : KnA w (knW2 v) p := ((((h.new _).new _).new _).new _).new _
theorem kn_w3 {w v : World} {p : Nat} (h : KnA w v p) : KnV w (knW3 v) v.heap.size := by
  have hw2 := (kn_w2 h).below
  have b3 : ∀ (u : World) (o : Obj), Below u.heap.size u (u.alloc o) := fun u o => (Below.refl _ _).alloc (Nat.le_refl _) _
  obtain ⟨A, hA⟩ : ∃ A, A = v.alloc (.cells knZ 28) := ⟨_, rfl⟩
  obtain ⟨B, hB⟩ : ∃ B, B = A.alloc (.cells #[.int .i64 0, .int .i64 2] 3) := ⟨_, rfl⟩
  obtain ⟨C, hC⟩ : ∃ C, C = B.alloc (.cells (knC v.heap.size) 28) := ⟨_, rfl⟩
  obtain ⟨D, hD⟩ : ∃ D, D = C.alloc (.cells (knD v.heap.size) 28) := ⟨_, rfl⟩
  obtain ⟨E, hE⟩ : ∃ E, E = D.alloc (.cells knF 28) := ⟨_, rfl⟩
  obtain ⟨F, hF⟩ : ∃ F, F = E.alloc (.cells knG 28) := ⟨_, rfl⟩
  obtain ⟨G, hG⟩ : ∃ G, G = F.alloc (.cells (knW.flatMap encW).toArray 36) := ⟨_, rfl⟩
  have s1 : A.heap.size = v.heap.size + 1 := by rw [hA, World.size_alloc]
  have s2 : B.heap.size = v.heap.size + 1 + 1 := by rw [hB, World.size_alloc, s1]
  have s3 : C.heap.size = v.heap.size + 1 + 1 + 1 := by rw [hC, World.size_alloc, s2]
  have s4 : D.heap.size = v.heap.size + 1 + 1 + 1 + 1 := by rw [hD, World.size_alloc, s3]
  have s5 : E.heap.size = v.heap.size + 1 + 1 + 1 + 1 + 1 := by rw [hE, World.size_alloc, s4]
  have s6 : F.heap.size = v.heap.size + 1 + 1 + 1 + 1 + 1 + 1 := by rw [hF, World.size_alloc, s5]
  have hp : IntsAt B (some ⟨v.heap.size + 1, 0, none⟩) [0, 2] := by rw [hB]; exact kn_ints A 0 2 (by omega) (by omega) _ s1.symm
  have hc := RBox.made B 28 4 1 0 0 0 0 none 0 0 false (some ⟨v.heap.size + 1, 0, none⟩) 2 2
  have hd := RBox.made C 28 4 1 0 0 5 1 none 0 0 false (some ⟨v.heap.size + 1, 0, none⟩) 2 2
  have hf := RBox.made D 28 5 0 0 0 9 0 none 0 0 false none 0 0
  have hg := RBox.made E 28 3 1 0 0 5 1 none 0 0 false none 0 0
  have hws := wrts_made F knW knW_oks
  rw [← hC, s2] at hc
  rw [← hD, s3] at hd
  rw [← hE, s4] at hf
  rw [← hF, s5] at hg
  rw [← hG, s6] at hws
  have bC : Below B.heap.size B C := by rw [hC]; exact b3 _ _
  have bD : Below C.heap.size C D := by rw [hD]; exact b3 _ _
  have bE : Below D.heap.size D E := by rw [hE]; exact b3 _ _
  have bF : Below E.heap.size E F := by rw [hF]; exact b3 _ _
  have bG : Below F.heap.size F G := by rw [hG]; exact b3 _ _
  have e2 : knW2 v = E := by rw [hE, hD, hC, hB, hA]
  have ew : encW knWA ++ encW knWB = knW.flatMap encW := by simp [knW]
  have e3 : knW3 v = G := by unfold knW3; rw [hG, hF, hE, hD, hC, hB, hA, ew]
  rw [e3]
  rw [e2] at hw2
  exact ⟨(hw2.trans (bF.mono hw2.size)).trans (bG.mono (hw2.trans (bF.mono hw2.size)).size), (((hc.past bD).past bE).past bF).past bG, ((hd.past bE).past bF).past bG, (hf.past bF).past bG, hg.past bG, ((((hp.past bC).past bD).past bE).past bF).past bG, hws⟩
end Go.Proofs.Ytmiafadmcpmjgaa
