/-
  The last region of layer 17's closed law, by itself.
-/
import Derived.Test.YtdbgkbgodnknnaaRouL3
import Derived.BigRegion
import Derived.Deep.Onto
import Derived.Deep.RegionHeld3
namespace Go.Proofs.Ytdbgkbgodnknnaa
open Go.RowKit
set_option linter.unusedVariables false
set_option linter.unusedSimpArgs false

/-- What Split leaves of the example's writes. -/
structure KnS (u : World) (gs b o lc : Nat) (lb : Option Addr) (ld : Nat) (ka : List Int) : Prop where
  c0 : u.cell? ⟨gs, 0, none⟩ = some (.slice (some ⟨b, o, none⟩) 2 lc)
  c1 : u.cell? ⟨gs, 1, none⟩ = some (.slice lb 0 ld)
  k0 : KeyAt u b o ka
theorem KnS.past {u u' : World} {gs b o lc ld : Nat} {lb : Option Addr} {ka : List Int} (h : KnS u gs b o lc lb ld ka) (hb : Below u.heap.size u u') : KnS u' gs b o lc lb ld ka :=
  ⟨(hb.cell (p := ⟨gs, 0, none⟩) (lt_of_cell h.c0)).trans h.c0, (hb.cell (p := ⟨gs, 1, none⟩) (lt_of_cell h.c1)).trans h.c1, h.k0.past hb⟩
theorem KnS.of {u : World} {gs : Nat} (h : SpAt u gs (splitR pgR lgR)) : ∃ b o lc lb ld, KnS u gs b o lc lb ld (kR 97) ∧ 2 ≤ lc := by
  obtain ⟨s1, s2, s3⟩ := kn_split
  obtain ⟨la, lc, h1, h2, h3⟩ := h.each 0 _ (split_at (P := pgR) (l := lgR) (by decide))
  obtain ⟨lb, ld, h4, _, _⟩ := h.each 1 _ (split_at (P := pgR) (l := lgR) (by decide))
  rw [s1] at h1 h2
  rw [s2] at h4
  rw [List.getElem?_map] at s3
  obtain ⟨W, hW, hk⟩ := Option.map_eq_some_iff.1 s3
  obtain ⟨b, o, rfl, hw, hok⟩ := h3.wrt hW
  have hk0 := hw.key hok.key
  rw [hk, Nat.zero_mul, Nat.add_zero] at hk0
  exact ⟨b, o, lc, lb, ld, ⟨h1, h4, hk0⟩, h2⟩
/-- All that the region asks of the calls it makes, in every world that has come of V. -/
structure EnvK (V : World) (q wb gs b o lc : Nat) (lb : Option Addr) (ld : Nat) (ka kg kh : List Int) : Prop where
  sp : ∀ u, Below V.heap.size V u → KnS u gs b o lc lb ld ka
  ya : Ky ka
  he : ∀ u, (Op.equalIn 10000 28 (kv ka) (kv ka)).run Try.prog u = .ok true u
  cka : ∀ u, Calls Try.prog 9 #[.string ⟨#[97]⟩] u fun e w' => e = .returned (kv ka) ∧ Below u.heap.size u w'
  ckg : ∀ u, Calls Try.prog 9 #[.string ⟨#[103]⟩] u fun e w' => e = .returned (kv kg) ∧ Below u.heap.size u w'
  ckh : ∀ u, Calls Try.prog 9 #[.string ⟨#[104]⟩] u fun e w' => e = .returned (kv kh) ∧ Below u.heap.size u w'
  cof : ∀ u, Below V.heap.size V u → Calls Try.prog 11 #[.pointer (some ⟨q, 0, none⟩), kv zeroK] u fun e w' => e = .returned (.int .i64 (-1)) ∧ Below u.heap.size u w'
  cpa : ∀ u, Below V.heap.size V u → Calls Try.prog 13 #[.pointer (some ⟨q, 0, none⟩), .slice (some ⟨wb, 0, none⟩) 4 4] u fun e w' => ∃ ra rc, e = .returned (.slice ra 2 rc) ∧ (2 ≤ rc ∧ NumsR w' ra [0, 2]) ∧ Below u.heap.size u w'
  cc1 : ∀ u, Below V.heap.size V u → Calls Try.prog 14 #[.pointer (some ⟨q, 0, none⟩), kv ka, kv kg] u fun e w' => ∃ ra rc, e = .returned (.slice ra 1 rc) ∧ (1 ≤ rc ∧ NumsR w' ra [0]) ∧ Below u.heap.size u w'
  cc2 : ∀ u, Below V.heap.size V u → Calls Try.prog 14 #[.pointer (some ⟨q, 0, none⟩), kv ka, kv kh] u fun e w' => ∃ ra rc, e = .returned (.slice ra 2 rc) ∧ (2 ≤ rc ∧ NumsR w' ra [0, 1]) ∧ Below u.heap.size u w'
  cc3 : ∀ u, Below V.heap.size V u → Calls Try.prog 14 #[.pointer (some ⟨q, 0, none⟩), kv kh, kv zeroK] u fun e w' => ∃ ra rc, e = .returned (.slice ra 2 rc) ∧ (2 ≤ rc ∧ NumsR w' ra [1, 2]) ∧ Below u.heap.size u w'
  cc4 : ∀ u, Below V.heap.size V u → Calls Try.prog 14 #[.pointer (some ⟨q, 0, none⟩), kv kh, kv kh] u fun e w' => ∃ ra rc, e = .returned (.slice ra 0 rc) ∧ (0 ≤ rc ∧ NumsR w' ra []) ∧ Below u.heap.size u w'
  cc5 : ∀ u, Below V.heap.size V u → Calls Try.prog 14 #[.pointer (some ⟨q, 0, none⟩), kv zeroK, kv zeroK] u fun e w' => ∃ ra rc, e = .returned (.slice ra 3 rc) ∧ (3 ≤ rc ∧ NumsR w' ra [0, 1, 2]) ∧ Below u.heap.size u w'
theorem yieldsIf_build_k0R {ops : Array Oper} {S : World → Prop} {op : Oper} {a : Act} (hw : Region.wanted op (yielded ops a.tmps) = true) (ho : op.op = .build 28 #[]) : YieldsIf Try.prog ops S op (kv zeroK) a :=
  .inl ⟨hw, fun w _ => by
    have hrun : (Instr.build 28 #[]).run Try.prog w = .ok (kv zeroK) w := by
      simp [Instr.build, run_underlying Try.underlying28]
      kernel_rfl
    unfold execOp
    simp only [ho, List.map_toArray, List.map_nil, Sem.run_bind, hrun, Result.andThen, Sem.run_pure]⟩
/-- A region of a body, by its number. -/
def findRegR (n : Nat) : Code → Option Code
  | .region id ops b => if id = n then some (.region id ops b) else none
  | .seq a b => match findRegR n a with
    | some c => some c
    | none => findRegR n b
  | .block _ c => findRegR n c
  | .scope c => findRegR n c
  | .cond _ a b => match findRegR n a with
    | some c => some c
    | none => findRegR n b
  | .loop c => findRegR n c
  | _ => none
def opsOfR : Code → Array Oper
  | .region _ ops _ => ops
  | _ => #[]
set_option maxRecDepth 16000 in
set_option maxHeartbeats 8000000 in
theorem known_st7 {OPS : Array Oper} (hO : opsOfR ((Try.f3.body.bind (findRegR 11)).getD .skip) = OPS) {V : World} {q wb gs b o lc ld : Nat} {lb : Option Addr} {ka kg kh : List Int} (E : Hid (EnvK V q wb gs b o lc lb ld ka kg kh)) {Q : Exit → Act → World → Prop} (hQ : ∀ {y1 y2 y3 y4 y5 y6 y8 y11 y12 y13 y14 y15 y16 y17 y18 y19 y20 y21 y22 y23 y24 y25 y26 y27 y28 y29 y30 y31 y32 y33 y34 y35 y36 y37 y38 y39 y40 y41 y42 y43 y44 y45 y46 y47 y48 y49 y50 y51 y52 y53 y54 y55 y56 y57 y58 y59 y60 y61 y62 y63 y64 y65 y66 y67 y68 y69 y70 y71 y72 y73 y74 y75 y76 y77 y78 y79 y80 y81 y82 y83 y84 y85 y86 y87 y88 y89 y90 y91 y92 y93 y94 y95 y96 y97 y98 y99 y100 y101 y102 y103 y104 y105 y106 y107 y108 y109 y110 y111 y112 y113 y114 y115 y116 y117 y118 y119 y120 y121 y122 y123 y124 y125 y126 y127 y128 y129 y130 y131 y132 y133 y134 y135 y136 y137 y138 y139 y140 y141 y142 y143 y144 y145 y146 : Value} (u : World), Below V.heap.size V u → Q .normal ⟨#[.bool true, y1, y2, y3, y4, y5, y6, .pointer (some ⟨q, 0, none⟩), y8, .slice (some ⟨wb, 0, none⟩) 4 4, .slice (some ⟨gs, 0, none⟩) 3 3, y11, y12, y13, y14, y15, y16, y17, y18, y19, y20, y21, y22, y23, y24, y25, y26, y27, y28, y29, y30, y31, y32, y33, y34, y35, y36, y37, y38, y39, y40, y41, y42, y43, y44, y45, y46, y47, y48, y49, y50, y51, y52, y53, y54, y55, y56, y57, y58, y59, y60, y61, y62, y63, y64, y65, y66, y67, y68, y69, y70, y71, y72, y73, y74, y75, y76, y77, y78, y79, y80, y81, y82, y83, y84, y85, y86, y87, y88, y89, y90, y91, y92, y93, y94, y95, y96, y97, y98, y99, y100, y101, y102, y103, y104, y105, y106, y107, y108, y109, y110, y111, y112, y113, y114, y115, y116, y117, y118, y119, y120, y121, y122, y123, y124, y125, y126, y127, y128, y129, y130, y131, y132, y133, y134, y135, y136, y137, y138, y139, y140, y141, y142, y143, y144, y145, y146], []⟩ u) {x0 x1 x2 x3 x4 x5 x6 x8 x11 x12 x13 x14 x15 x16 x17 x18 x19 x20 x21 x22 x23 x24 x25 x26 x27 x28 x29 x30 x31 x32 x33 x34 x35 x36 x37 x38 x39 x40 x41 x42 x43 x44 x45 x46 x47 x48 x49 x50 x51 x52 x53 x54 x55 x56 x57 x58 x59 x60 x61 x62 x63 x64 x65 x66 x67 x68 x69 x70 x71 x72 x73 x74 x75 x76 x77 x78 x79 x80 x81 x82 x83 x84 x85 x86 x87 x88 x89 x90 x91 x92 x93 x94 x95 x96 x97 x98 x99 x100 x101 x102 x103 x104 x105 x106 x107 x108 x109 x110 x111 x112 x113 x114 x115 x116 x117 x118 x119 x120 x121 x122 x123 x124 x125 x126 x127 x128 x129 x130 x131 x132 x133 x134 x135 x136 x137 x138 x140 x141 x142 x143 x144 x145 x146 : Value} (l : Array Bool) (hl : l = Array.replicate 89 true ++ Array.replicate 8 false) (u0 : World) (hHeld : Below V.heap.size V u0) :
    wpAnyH Try.prog .any OPS (NoPanic Q) (fun u => Below V.heap.size V u) 8 l ⟨#[x0, x1, x2, x3, x4, x5, x6, .pointer (some ⟨q, 0, none⟩), x8, .slice (some ⟨wb, 0, none⟩) 4 4, .slice (some ⟨gs, 0, none⟩) 3 3, x11, x12, x13, x14, x15, x16, x17, x18, x19, x20, x21, x22, x23, x24, x25, x26, x27, x28, x29, x30, x31, x32, x33, x34, x35, x36, x37, x38, x39, x40, x41, x42, x43, x44, x45, x46, x47, x48, x49, x50, x51, x52, x53, x54, x55, x56, x57, x58, x59, x60, x61, x62, x63, x64, x65, x66, x67, x68, x69, x70, x71, x72, x73, x74, x75, x76, x77, x78, x79, x80, x81, x82, x83, x84, x85, x86, x87, x88, x89, x90, x91, x92, x93, x94, x95, x96, x97, x98, x99, x100, x101, x102, x103, x104, x105, x106, x107, x108, x109, x110, x111, x112, x113, x114, x115, x116, x117, x118, x119, x120, x121, x122, x123, x124, x125, x126, x127, x128, x129, x130, x131, x132, x133, x134, x135, x136, x137, x138, .bool true, x140, x141, x142, x143, x144, x145, x146], []⟩ u0 := by
  subst hl
  subst hO
  conv => arg 3; whnf
  refine wpAnyH_take (i := 89) (v := ?_) rfl (by kernel_rfl) (by kernel_rfl) (by kernel_rfl) (fun _ _ _ h => h) (Or.inl ⟨by rfl, ?_⟩) hHeld ?_
  rotate_left
  · intro u hSu
    (go_simp) <;> (with_reducible rfl)
  change wpAnyH _ _ _ _ _ _ _ (Act.put _ (some 140) _) _
  simp only [Act.put, List.setIfInBounds_toArray, List.set_cons_zero, List.set_cons_succ]
  refine wpAnyH_take (i := 90) (v := kv zeroK) rfl (by kernel_rfl) (by kernel_rfl) (by kernel_rfl) (fun _ _ _ h => h) (yieldsIf_build_k0R (by rfl) rfl) hHeld ?_
  change wpAnyH _ _ _ _ _ _ _ (Act.put _ (some 141) _) _
  simp only [Act.put, List.setIfInBounds_toArray, List.set_cons_zero, List.set_cons_succ]
  refine wpAnyH_take (i := 91) (v := kv zeroK) rfl (by kernel_rfl) (by kernel_rfl) (by kernel_rfl) (fun _ _ _ h => h) (yieldsIf_build_k0R (by rfl) rfl) hHeld ?_
  change wpAnyH _ _ _ _ _ _ _ (Act.put _ (some 142) _) _
  simp only [Act.put, List.setIfInBounds_toArray, List.set_cons_zero, List.set_cons_succ]
  refine wpAnyH_ready (rs := [92, 93]) (by kernel_rfl) (by simp) ?_
  refine AllReadyH.cons rfl (fun K hK => ?_) ?_
  · go_simp
    go_at_call 14
    refine (E.out.cc5 _ hHeld).mono ?_
    rintro e z1 ⟨raz1, rcz1, rfl, hn, hb⟩
    have HBz1 : Hid (Below V.heap.size V z1) := hHeld.trans (hb.mono hHeld.size)
    have NAz1 : Hid (NumsR z1 raz1 [0, 1, 2]) := hn.2
    have hrz1 := hn.1
    clear hn
    clear hb
    refine hK.out _ _ ?_ (fun hHeld2 => ?_)
    · exact HBz1.out
    clear hK K hHeld
    have hHeld := hHeld2
    clear hHeld2
    refine wpAnyH_ready (rs := [93]) (by kernel_rfl) (by simp) ?_
    refine AllReadyH.cons rfl (fun K hK => ?_) AllReadyH.nil
    go_simp
    have HBz2 : Hid (Below V.heap.size V (z1.alloc (.cells #[.int .i64 0, .int .i64 1, .int .i64 2] 3))) := hHeld.alloc hHeld.size _
    have NLz2 : Hid (NumsR (z1.alloc (.cells #[.int .i64 0, .int .i64 1, .int .i64 2] 3)) (some ⟨z1.heap.size, 0, none⟩) [0, 1, 2]) := nums_madeR z1 [0, 1, 2]
    have NAz2 : Hid (NumsR (z1.alloc (.cells #[.int .i64 0, .int .i64 1, .int .i64 2] 3)) raz1 [0, 1, 2]) := NAz1.out.past ((Below.refl _ _).alloc (Nat.le_refl _) _)
    refine hK.out _ _ ?_ (fun hHeld2 => ?_)
    · exact HBz2.out
    clear hK K hHeld
    have hHeld := hHeld2
    clear hHeld2
    generalize hwz2 : z1.alloc (.cells #[.int .i64 0, .int .i64 1, .int .i64 2] 3) = z2 at hHeld HBz2 NLz2 NAz2 ⊢
    clear hwz2
    refine wpAnyH_ready (rs := [94]) (by kernel_rfl) (by simp) ?_
    refine AllReadyH.cons rfl (fun K hK => ?_) AllReadyH.nil
    go_simp
    go_at_call 12
    refine (rsame17_any raz1 (some ⟨z1.heap.size, 0, none⟩) 3 rcz1 3 [0, 1, 2] _ rfl hrz1 (Nat.le_refl _) (by omega) NAz2.out NLz2.out).mono ?_
    rintro e z3 ⟨rfl, hb⟩
    have HBz3 : Hid (Below V.heap.size V z3) := hHeld.trans (hb.mono hHeld.size)
    clear hb
    refine hK.out _ _ ?_ (fun hHeld2 => ?_)
    · exact HBz3.out
    clear hK K hHeld
    have hHeld := hHeld2
    clear hHeld2
    refine wpAnyH_take (i := 95) (v := ?_) rfl (by kernel_rfl) (by kernel_rfl) (by kernel_rfl) (fun _ _ _ h => h) (Or.inl ⟨by rfl, ?_⟩) hHeld ?_
    rotate_left
    · intro u hSu
      (go_simp) <;> (with_reducible rfl)
    change wpAnyH _ _ _ _ _ _ _ (Act.put _ (some 146) _) _
    simp only [Act.put, List.setIfInBounds_toArray, List.set_cons_zero, List.set_cons_succ]
    refine wpAnyH_take (i := 96) (v := ?_) rfl (by kernel_rfl) (by kernel_rfl) (by kernel_rfl) (fun _ _ _ h => h) (Or.inl ⟨by rfl, ?_⟩) hHeld ?_
    rotate_left
    · intro u hSu
      (go_simp) <;> (with_reducible rfl)
    change wpAnyH _ _ _ _ _ _ _ (Act.put _ (some 0) _) _
    simp only [Act.put, List.setIfInBounds_toArray, List.set_cons_zero]
    refine wpAnyH_done (by kernel_rfl) ?_ _
    refine NoPanic.normal ?_
    exact hQ _ hHeld
  refine AllReadyH.cons rfl (fun K hK => ?_) AllReadyH.nil
  go_simp
  have HBz4 : Hid (Below V.heap.size V (u0.alloc (.cells #[.int .i64 0, .int .i64 1, .int .i64 2] 3))) := hHeld.alloc hHeld.size _
  have NLz4 : Hid (NumsR (u0.alloc (.cells #[.int .i64 0, .int .i64 1, .int .i64 2] 3)) (some ⟨u0.heap.size, 0, none⟩) [0, 1, 2]) := nums_madeR u0 [0, 1, 2]
  refine hK.out _ _ ?_ (fun hHeld2 => ?_)
  · exact HBz4.out
  clear hK K hHeld
  have hHeld := hHeld2
  clear hHeld2
  generalize hwz4 : u0.alloc (.cells #[.int .i64 0, .int .i64 1, .int .i64 2] 3) = z4 at hHeld HBz4 NLz4  ⊢
  clear hwz4
  refine wpAnyH_ready (rs := [92]) (by kernel_rfl) (by simp) ?_
  refine AllReadyH.cons rfl (fun K hK => ?_) AllReadyH.nil
  go_simp
  go_at_call 14
  refine (E.out.cc5 _ hHeld).mono ?_
  rintro e z5 ⟨raz5, rcz5, rfl, hn, hb⟩
  have HBz5 : Hid (Below V.heap.size V z5) := hHeld.trans (hb.mono hHeld.size)
  have NLz5 : Hid (NumsR z5 (some ⟨u0.heap.size, 0, none⟩) [0, 1, 2]) := NLz4.out.past hb
  have NAz5 : Hid (NumsR z5 raz5 [0, 1, 2]) := hn.2
  have hrz5 := hn.1
  clear hn
  clear hb
  refine hK.out _ _ ?_ (fun hHeld2 => ?_)
  · exact HBz5.out
  clear hK K hHeld
  have hHeld := hHeld2
  clear hHeld2
  refine wpAnyH_ready (rs := [94]) (by kernel_rfl) (by simp) ?_
  refine AllReadyH.cons rfl (fun K hK => ?_) AllReadyH.nil
  go_simp
  go_at_call 12
  refine (rsame17_any raz5 (some ⟨u0.heap.size, 0, none⟩) 3 rcz5 3 [0, 1, 2] _ rfl hrz5 (Nat.le_refl _) (by omega) NAz5.out NLz5.out).mono ?_
  rintro e z6 ⟨rfl, hb⟩
  have HBz6 : Hid (Below V.heap.size V z6) := hHeld.trans (hb.mono hHeld.size)
  clear hb
  refine hK.out _ _ ?_ (fun hHeld2 => ?_)
  · exact HBz6.out
  clear hK K hHeld
  have hHeld := hHeld2
  clear hHeld2
  refine wpAnyH_take (i := 95) (v := ?_) rfl (by kernel_rfl) (by kernel_rfl) (by kernel_rfl) (fun _ _ _ h => h) (Or.inl ⟨by rfl, ?_⟩) hHeld ?_
  rotate_left
  · intro u hSu
    (go_simp) <;> (with_reducible rfl)
  change wpAnyH _ _ _ _ _ _ _ (Act.put _ (some 146) _) _
  simp only [Act.put, List.setIfInBounds_toArray, List.set_cons_zero, List.set_cons_succ]
  refine wpAnyH_take (i := 96) (v := ?_) rfl (by kernel_rfl) (by kernel_rfl) (by kernel_rfl) (fun _ _ _ h => h) (Or.inl ⟨by rfl, ?_⟩) hHeld ?_
  rotate_left
  · intro u hSu
    (go_simp) <;> (with_reducible rfl)
  change wpAnyH _ _ _ _ _ _ _ (Act.put _ (some 0) _) _
  simp only [Act.put, List.setIfInBounds_toArray, List.set_cons_zero]
  refine wpAnyH_done (by kernel_rfl) ?_ _
  refine NoPanic.normal ?_
  exact hQ _ hHeld
set_option maxRecDepth 16000 in
set_option maxHeartbeats 8000000 in
theorem known_st6 {OPS : Array Oper} (hO : opsOfR ((Try.f3.body.bind (findRegR 11)).getD .skip) = OPS) {V : World} {q wb gs b o lc ld : Nat} {lb : Option Addr} {ka kg kh : List Int} (E : Hid (EnvK V q wb gs b o lc lb ld ka kg kh)) {Q : Exit → Act → World → Prop} (hQ : ∀ {y1 y2 y3 y4 y5 y6 y8 y11 y12 y13 y14 y15 y16 y17 y18 y19 y20 y21 y22 y23 y24 y25 y26 y27 y28 y29 y30 y31 y32 y33 y34 y35 y36 y37 y38 y39 y40 y41 y42 y43 y44 y45 y46 y47 y48 y49 y50 y51 y52 y53 y54 y55 y56 y57 y58 y59 y60 y61 y62 y63 y64 y65 y66 y67 y68 y69 y70 y71 y72 y73 y74 y75 y76 y77 y78 y79 y80 y81 y82 y83 y84 y85 y86 y87 y88 y89 y90 y91 y92 y93 y94 y95 y96 y97 y98 y99 y100 y101 y102 y103 y104 y105 y106 y107 y108 y109 y110 y111 y112 y113 y114 y115 y116 y117 y118 y119 y120 y121 y122 y123 y124 y125 y126 y127 y128 y129 y130 y131 y132 y133 y134 y135 y136 y137 y138 y139 y140 y141 y142 y143 y144 y145 y146 : Value} (u : World), Below V.heap.size V u → Q .normal ⟨#[.bool true, y1, y2, y3, y4, y5, y6, .pointer (some ⟨q, 0, none⟩), y8, .slice (some ⟨wb, 0, none⟩) 4 4, .slice (some ⟨gs, 0, none⟩) 3 3, y11, y12, y13, y14, y15, y16, y17, y18, y19, y20, y21, y22, y23, y24, y25, y26, y27, y28, y29, y30, y31, y32, y33, y34, y35, y36, y37, y38, y39, y40, y41, y42, y43, y44, y45, y46, y47, y48, y49, y50, y51, y52, y53, y54, y55, y56, y57, y58, y59, y60, y61, y62, y63, y64, y65, y66, y67, y68, y69, y70, y71, y72, y73, y74, y75, y76, y77, y78, y79, y80, y81, y82, y83, y84, y85, y86, y87, y88, y89, y90, y91, y92, y93, y94, y95, y96, y97, y98, y99, y100, y101, y102, y103, y104, y105, y106, y107, y108, y109, y110, y111, y112, y113, y114, y115, y116, y117, y118, y119, y120, y121, y122, y123, y124, y125, y126, y127, y128, y129, y130, y131, y132, y133, y134, y135, y136, y137, y138, y139, y140, y141, y142, y143, y144, y145, y146], []⟩ u) {x0 x1 x2 x3 x4 x5 x6 x8 x11 x12 x13 x14 x15 x16 x17 x18 x19 x20 x21 x22 x23 x24 x25 x26 x27 x28 x29 x30 x31 x32 x33 x34 x35 x36 x37 x38 x39 x40 x41 x42 x43 x44 x45 x46 x47 x48 x49 x50 x51 x52 x53 x54 x55 x56 x57 x58 x59 x60 x61 x62 x63 x64 x65 x66 x67 x68 x69 x70 x71 x72 x73 x74 x75 x76 x77 x78 x79 x80 x81 x82 x83 x84 x85 x86 x87 x88 x89 x90 x91 x92 x93 x94 x95 x96 x97 x98 x99 x100 x101 x102 x103 x104 x105 x106 x107 x108 x109 x110 x111 x112 x113 x114 x115 x116 x117 x118 x119 x120 x121 x122 x123 x124 x125 x126 x127 x128 x129 x130 x132 x133 x134 x135 x136 x137 x138 x139 x140 x141 x142 x143 x144 x145 x146 : Value} (l : Array Bool) (hl : l = Array.replicate 81 true ++ Array.replicate 16 false) (u0 : World) (hHeld : Below V.heap.size V u0) :
    wpAnyH Try.prog .any OPS (NoPanic Q) (fun u => Below V.heap.size V u) 16 l ⟨#[x0, x1, x2, x3, x4, x5, x6, .pointer (some ⟨q, 0, none⟩), x8, .slice (some ⟨wb, 0, none⟩) 4 4, .slice (some ⟨gs, 0, none⟩) 3 3, x11, x12, x13, x14, x15, x16, x17, x18, x19, x20, x21, x22, x23, x24, x25, x26, x27, x28, x29, x30, x31, x32, x33, x34, x35, x36, x37, x38, x39, x40, x41, x42, x43, x44, x45, x46, x47, x48, x49, x50, x51, x52, x53, x54, x55, x56, x57, x58, x59, x60, x61, x62, x63, x64, x65, x66, x67, x68, x69, x70, x71, x72, x73, x74, x75, x76, x77, x78, x79, x80, x81, x82, x83, x84, x85, x86, x87, x88, x89, x90, x91, x92, x93, x94, x95, x96, x97, x98, x99, x100, x101, x102, x103, x104, x105, x106, x107, x108, x109, x110, x111, x112, x113, x114, x115, x116, x117, x118, x119, x120, x121, x122, x123, x124, x125, x126, x127, x128, x129, x130, .bool true, x132, x133, x134, x135, x136, x137, x138, x139, x140, x141, x142, x143, x144, x145, x146], []⟩ u0 := by
  subst hl
  subst hO
  conv => arg 3; whnf
  refine wpAnyH_take (i := 81) (v := ?_) rfl (by kernel_rfl) (by kernel_rfl) (by kernel_rfl) (fun _ _ _ h => h) (Or.inl ⟨by rfl, ?_⟩) hHeld ?_
  rotate_left
  · intro u hSu
    (go_simp) <;> (with_reducible rfl)
  change wpAnyH _ _ _ _ _ _ _ (Act.put _ (some 132) _) _
  simp only [Act.put, List.setIfInBounds_toArray, List.set_cons_zero, List.set_cons_succ]
  refine wpAnyH_ready (rs := [82]) (by kernel_rfl) (by simp) ?_
  refine AllReadyH.cons rfl (fun K hK => ?_) AllReadyH.nil
  go_simp
  go_at_call 9
  refine (E.out.ckh _).mono ?_
  rintro e z1 ⟨rfl, hb⟩
  have HBz1 : Hid (Below V.heap.size V z1) := hHeld.trans (hb.mono hHeld.size)
  clear hb
  refine hK.out _ _ ?_ (fun hHeld2 => ?_)
  · exact HBz1.out
  clear hK K hHeld
  have hHeld := hHeld2
  clear hHeld2
  refine wpAnyH_ready (rs := [83]) (by kernel_rfl) (by simp) ?_
  refine AllReadyH.cons rfl (fun K hK => ?_) AllReadyH.nil
  go_simp
  go_at_call 9
  refine (E.out.ckh _).mono ?_
  rintro e z2 ⟨rfl, hb⟩
  have HBz2 : Hid (Below V.heap.size V z2) := hHeld.trans (hb.mono hHeld.size)
  clear hb
  refine hK.out _ _ ?_ (fun hHeld2 => ?_)
  · exact HBz2.out
  clear hK K hHeld
  have hHeld := hHeld2
  clear hHeld2
  refine wpAnyH_ready (rs := [84]) (by kernel_rfl) (by simp) ?_
  refine AllReadyH.cons rfl (fun K hK => ?_) AllReadyH.nil
  go_simp
  go_at_call 14
  refine (E.out.cc4 _ hHeld).mono ?_
  rintro e z3 ⟨ra, rc, rfl, hn, hb⟩
  have HBz3 : Hid (Below V.heap.size V z3) := hHeld.trans (hb.mono hHeld.size)
  clear hn
  clear hb
  refine hK.out _ _ ?_ (fun hHeld2 => ?_)
  · exact HBz3.out
  clear hK K hHeld
  have hHeld := hHeld2
  clear hHeld2
  refine wpAnyH_take (i := 85) (v := ?_) rfl (by kernel_rfl) (by kernel_rfl) (by kernel_rfl) (fun _ _ _ h => h) (Or.inl ⟨by rfl, ?_⟩) hHeld ?_
  rotate_left
  · intro u hSu
    (go_simp) <;> (with_reducible rfl)
  change wpAnyH _ _ _ _ _ _ _ (Act.put _ (some 136) _) _
  simp only [Act.put, List.setIfInBounds_toArray, List.set_cons_zero, List.set_cons_succ]
  refine wpAnyH_take (i := 86) (v := ?_) rfl (by kernel_rfl) (by kernel_rfl) (by kernel_rfl) (fun _ _ _ h => h) (Or.inl ⟨by rfl, ?_⟩) hHeld ?_
  rotate_left
  · intro u hSu
    (go_simp) <;> (with_reducible rfl)
  change wpAnyH _ _ _ _ _ _ _ (Act.put _ (some 137) _) _
  simp only [Act.put, List.setIfInBounds_toArray, List.set_cons_zero, List.set_cons_succ]
  refine wpAnyH_take (i := 87) (v := ?_) rfl (by kernel_rfl) (by kernel_rfl) (by kernel_rfl) (fun _ _ _ h => h) (Or.inl ⟨by rfl, ?_⟩) hHeld ?_
  rotate_left
  · intro u hSu
    (go_simp) <;> (with_reducible rfl)
  change wpAnyH _ _ _ _ _ _ _ (Act.put _ (some 138) _) _
  simp only [Act.put, List.setIfInBounds_toArray, List.set_cons_zero, List.set_cons_succ]
  refine wpAnyH_take (i := 88) (v := ?_) rfl (by kernel_rfl) (by kernel_rfl) (by kernel_rfl) (fun _ _ _ h => h) (Or.inl ⟨by rfl, ?_⟩) hHeld ?_
  rotate_left
  · intro u hSu
    (go_simp) <;> (with_reducible rfl)
  change wpAnyH _ _ _ _ _ _ _ (Act.put _ (some 139) _) _
  simp only [Act.put, List.setIfInBounds_toArray, List.set_cons_zero, List.set_cons_succ]
  exact known_st7 (by kernel_rfl) E hQ _ (by kernel_rfl) _ hHeld
set_option maxRecDepth 16000 in
set_option maxHeartbeats 8000000 in
theorem known_st5 {OPS : Array Oper} (hO : opsOfR ((Try.f3.body.bind (findRegR 11)).getD .skip) = OPS) {V : World} {q wb gs b o lc ld : Nat} {lb : Option Addr} {ka kg kh : List Int} (E : Hid (EnvK V q wb gs b o lc lb ld ka kg kh)) {Q : Exit → Act → World → Prop} (hQ : ∀ {y1 y2 y3 y4 y5 y6 y8 y11 y12 y13 y14 y15 y16 y17 y18 y19 y20 y21 y22 y23 y24 y25 y26 y27 y28 y29 y30 y31 y32 y33 y34 y35 y36 y37 y38 y39 y40 y41 y42 y43 y44 y45 y46 y47 y48 y49 y50 y51 y52 y53 y54 y55 y56 y57 y58 y59 y60 y61 y62 y63 y64 y65 y66 y67 y68 y69 y70 y71 y72 y73 y74 y75 y76 y77 y78 y79 y80 y81 y82 y83 y84 y85 y86 y87 y88 y89 y90 y91 y92 y93 y94 y95 y96 y97 y98 y99 y100 y101 y102 y103 y104 y105 y106 y107 y108 y109 y110 y111 y112 y113 y114 y115 y116 y117 y118 y119 y120 y121 y122 y123 y124 y125 y126 y127 y128 y129 y130 y131 y132 y133 y134 y135 y136 y137 y138 y139 y140 y141 y142 y143 y144 y145 y146 : Value} (u : World), Below V.heap.size V u → Q .normal ⟨#[.bool true, y1, y2, y3, y4, y5, y6, .pointer (some ⟨q, 0, none⟩), y8, .slice (some ⟨wb, 0, none⟩) 4 4, .slice (some ⟨gs, 0, none⟩) 3 3, y11, y12, y13, y14, y15, y16, y17, y18, y19, y20, y21, y22, y23, y24, y25, y26, y27, y28, y29, y30, y31, y32, y33, y34, y35, y36, y37, y38, y39, y40, y41, y42, y43, y44, y45, y46, y47, y48, y49, y50, y51, y52, y53, y54, y55, y56, y57, y58, y59, y60, y61, y62, y63, y64, y65, y66, y67, y68, y69, y70, y71, y72, y73, y74, y75, y76, y77, y78, y79, y80, y81, y82, y83, y84, y85, y86, y87, y88, y89, y90, y91, y92, y93, y94, y95, y96, y97, y98, y99, y100, y101, y102, y103, y104, y105, y106, y107, y108, y109, y110, y111, y112, y113, y114, y115, y116, y117, y118, y119, y120, y121, y122, y123, y124, y125, y126, y127, y128, y129, y130, y131, y132, y133, y134, y135, y136, y137, y138, y139, y140, y141, y142, y143, y144, y145, y146], []⟩ u) {x0 x1 x2 x3 x4 x5 x6 x8 x11 x12 x13 x14 x15 x16 x17 x18 x19 x20 x21 x22 x23 x24 x25 x26 x27 x28 x29 x30 x31 x32 x33 x34 x35 x36 x37 x38 x39 x40 x41 x42 x43 x44 x45 x46 x47 x48 x49 x50 x51 x52 x53 x54 x55 x56 x57 x58 x59 x60 x61 x62 x63 x64 x65 x66 x67 x68 x69 x70 x71 x72 x73 x74 x75 x76 x77 x78 x79 x80 x81 x82 x83 x84 x85 x86 x87 x88 x89 x90 x91 x92 x93 x94 x95 x96 x97 x98 x99 x100 x101 x102 x103 x104 x105 x106 x107 x108 x109 x110 x111 x112 x113 x114 x115 x116 x117 x118 x119 x120 x121 x122 x124 x125 x126 x127 x128 x129 x130 x131 x132 x133 x134 x135 x136 x137 x138 x139 x140 x141 x142 x143 x144 x145 x146 : Value} (l : Array Bool) (hl : l = Array.replicate 73 true ++ Array.replicate 24 false) (u0 : World) (hHeld : Below V.heap.size V u0) :
    wpAnyH Try.prog .any OPS (NoPanic Q) (fun u => Below V.heap.size V u) 24 l ⟨#[x0, x1, x2, x3, x4, x5, x6, .pointer (some ⟨q, 0, none⟩), x8, .slice (some ⟨wb, 0, none⟩) 4 4, .slice (some ⟨gs, 0, none⟩) 3 3, x11, x12, x13, x14, x15, x16, x17, x18, x19, x20, x21, x22, x23, x24, x25, x26, x27, x28, x29, x30, x31, x32, x33, x34, x35, x36, x37, x38, x39, x40, x41, x42, x43, x44, x45, x46, x47, x48, x49, x50, x51, x52, x53, x54, x55, x56, x57, x58, x59, x60, x61, x62, x63, x64, x65, x66, x67, x68, x69, x70, x71, x72, x73, x74, x75, x76, x77, x78, x79, x80, x81, x82, x83, x84, x85, x86, x87, x88, x89, x90, x91, x92, x93, x94, x95, x96, x97, x98, x99, x100, x101, x102, x103, x104, x105, x106, x107, x108, x109, x110, x111, x112, x113, x114, x115, x116, x117, x118, x119, x120, x121, x122, .bool true, x124, x125, x126, x127, x128, x129, x130, x131, x132, x133, x134, x135, x136, x137, x138, x139, x140, x141, x142, x143, x144, x145, x146], []⟩ u0 := by
  subst hl
  subst hO
  conv => arg 3; whnf
  refine wpAnyH_take (i := 73) (v := ?_) rfl (by kernel_rfl) (by kernel_rfl) (by kernel_rfl) (fun _ _ _ h => h) (Or.inl ⟨by rfl, ?_⟩) hHeld ?_
  rotate_left
  · intro u hSu
    (go_simp) <;> (with_reducible rfl)
  change wpAnyH _ _ _ _ _ _ _ (Act.put _ (some 124) _) _
  simp only [Act.put, List.setIfInBounds_toArray, List.set_cons_zero, List.set_cons_succ]
  refine wpAnyH_take (i := 75) (v := kv zeroK) rfl (by kernel_rfl) (by kernel_rfl) (by kernel_rfl) (fun _ _ _ h => h) (yieldsIf_build_k0R (by rfl) rfl) hHeld ?_
  change wpAnyH _ _ _ _ _ _ _ (Act.put _ (some 126) _) _
  simp only [Act.put, List.setIfInBounds_toArray, List.set_cons_zero, List.set_cons_succ]
  refine wpAnyH_ready (rs := [74, 77]) (by kernel_rfl) (by simp) ?_
  refine AllReadyH.cons rfl (fun K hK => ?_) ?_
  · go_simp
    go_at_call 9
    refine (E.out.ckh _).mono ?_
    rintro e z7 ⟨rfl, hb⟩
    have HBz7 : Hid (Below V.heap.size V z7) := hHeld.trans (hb.mono hHeld.size)
    clear hb
    refine hK.out _ _ ?_ (fun hHeld2 => ?_)
    · exact HBz7.out
    clear hK K hHeld
    have hHeld := hHeld2
    clear hHeld2
    refine wpAnyH_ready (rs := [76, 77]) (by kernel_rfl) (by simp) ?_
    refine AllReadyH.cons rfl (fun K hK => ?_) ?_
    · go_simp
      go_at_call 14
      refine (E.out.cc3 _ hHeld).mono ?_
      rintro e z8 ⟨raz8, rcz8, rfl, hn, hb⟩
      have HBz8 : Hid (Below V.heap.size V z8) := hHeld.trans (hb.mono hHeld.size)
      have NAz8 : Hid (NumsR z8 raz8 [1, 2]) := hn.2
      have hrz8 := hn.1
      clear hn
      clear hb
      refine hK.out _ _ ?_ (fun hHeld2 => ?_)
      · exact HBz8.out
      clear hK K hHeld
      have hHeld := hHeld2
      clear hHeld2
      refine wpAnyH_ready (rs := [77]) (by kernel_rfl) (by simp) ?_
      refine AllReadyH.cons rfl (fun K hK => ?_) AllReadyH.nil
      go_simp
      have HBz9 : Hid (Below V.heap.size V (z8.alloc (.cells #[.int .i64 1, .int .i64 2] 3))) := hHeld.alloc hHeld.size _
      have NLz9 : Hid (NumsR (z8.alloc (.cells #[.int .i64 1, .int .i64 2] 3)) (some ⟨z8.heap.size, 0, none⟩) [1, 2]) := nums_madeR z8 [1, 2]
      have NAz9 : Hid (NumsR (z8.alloc (.cells #[.int .i64 1, .int .i64 2] 3)) raz8 [1, 2]) := NAz8.out.past ((Below.refl _ _).alloc (Nat.le_refl _) _)
      refine hK.out _ _ ?_ (fun hHeld2 => ?_)
      · exact HBz9.out
      clear hK K hHeld
      have hHeld := hHeld2
      clear hHeld2
      generalize hwz9 : z8.alloc (.cells #[.int .i64 1, .int .i64 2] 3) = z9 at hHeld HBz9 NLz9 NAz9 ⊢
      clear hwz9
      refine wpAnyH_ready (rs := [78]) (by kernel_rfl) (by simp) ?_
      refine AllReadyH.cons rfl (fun K hK => ?_) AllReadyH.nil
      go_simp
      go_at_call 12
      refine (rsame17_any raz8 (some ⟨z8.heap.size, 0, none⟩) 2 rcz8 2 [1, 2] _ rfl hrz8 (Nat.le_refl _) (by omega) NAz9.out NLz9.out).mono ?_
      rintro e z10 ⟨rfl, hb⟩
      have HBz10 : Hid (Below V.heap.size V z10) := hHeld.trans (hb.mono hHeld.size)
      clear hb
      refine hK.out _ _ ?_ (fun hHeld2 => ?_)
      · exact HBz10.out
      clear hK K hHeld
      have hHeld := hHeld2
      clear hHeld2
      refine wpAnyH_take (i := 79) (v := ?_) rfl (by kernel_rfl) (by kernel_rfl) (by kernel_rfl) (fun _ _ _ h => h) (Or.inl ⟨by rfl, ?_⟩) hHeld ?_
      rotate_left
      · intro u hSu
        (go_simp) <;> (with_reducible rfl)
      change wpAnyH _ _ _ _ _ _ _ (Act.put _ (some 130) _) _
      simp only [Act.put, List.setIfInBounds_toArray, List.set_cons_zero, List.set_cons_succ]
      refine wpAnyH_take (i := 80) (v := ?_) rfl (by kernel_rfl) (by kernel_rfl) (by kernel_rfl) (fun _ _ _ h => h) (Or.inl ⟨by rfl, ?_⟩) hHeld ?_
      rotate_left
      · intro u hSu
        (go_simp) <;> (with_reducible rfl)
      change wpAnyH _ _ _ _ _ _ _ (Act.put _ (some 131) _) _
      simp only [Act.put, List.setIfInBounds_toArray, List.set_cons_zero, List.set_cons_succ]
      exact known_st6 (by kernel_rfl) E hQ _ (by kernel_rfl) _ hHeld
    refine AllReadyH.cons rfl (fun K hK => ?_) AllReadyH.nil
    go_simp
    have HBz11 : Hid (Below V.heap.size V (z7.alloc (.cells #[.int .i64 1, .int .i64 2] 3))) := hHeld.alloc hHeld.size _
    have NLz11 : Hid (NumsR (z7.alloc (.cells #[.int .i64 1, .int .i64 2] 3)) (some ⟨z7.heap.size, 0, none⟩) [1, 2]) := nums_madeR z7 [1, 2]
    refine hK.out _ _ ?_ (fun hHeld2 => ?_)
    · exact HBz11.out
    clear hK K hHeld
    have hHeld := hHeld2
    clear hHeld2
    generalize hwz11 : z7.alloc (.cells #[.int .i64 1, .int .i64 2] 3) = z11 at hHeld HBz11 NLz11  ⊢
    clear hwz11
    refine wpAnyH_ready (rs := [76]) (by kernel_rfl) (by simp) ?_
    refine AllReadyH.cons rfl (fun K hK => ?_) AllReadyH.nil
    go_simp
    go_at_call 14
    refine (E.out.cc3 _ hHeld).mono ?_
    rintro e z12 ⟨raz12, rcz12, rfl, hn, hb⟩
    have HBz12 : Hid (Below V.heap.size V z12) := hHeld.trans (hb.mono hHeld.size)
    have NLz12 : Hid (NumsR z12 (some ⟨z7.heap.size, 0, none⟩) [1, 2]) := NLz11.out.past hb
    have NAz12 : Hid (NumsR z12 raz12 [1, 2]) := hn.2
    have hrz12 := hn.1
    clear hn
    clear hb
    refine hK.out _ _ ?_ (fun hHeld2 => ?_)
    · exact HBz12.out
    clear hK K hHeld
    have hHeld := hHeld2
    clear hHeld2
    refine wpAnyH_ready (rs := [78]) (by kernel_rfl) (by simp) ?_
    refine AllReadyH.cons rfl (fun K hK => ?_) AllReadyH.nil
    go_simp
    go_at_call 12
    refine (rsame17_any raz12 (some ⟨z7.heap.size, 0, none⟩) 2 rcz12 2 [1, 2] _ rfl hrz12 (Nat.le_refl _) (by omega) NAz12.out NLz12.out).mono ?_
    rintro e z13 ⟨rfl, hb⟩
    have HBz13 : Hid (Below V.heap.size V z13) := hHeld.trans (hb.mono hHeld.size)
    clear hb
    refine hK.out _ _ ?_ (fun hHeld2 => ?_)
    · exact HBz13.out
    clear hK K hHeld
    have hHeld := hHeld2
    clear hHeld2
    refine wpAnyH_take (i := 79) (v := ?_) rfl (by kernel_rfl) (by kernel_rfl) (by kernel_rfl) (fun _ _ _ h => h) (Or.inl ⟨by rfl, ?_⟩) hHeld ?_
    rotate_left
    · intro u hSu
      (go_simp) <;> (with_reducible rfl)
    change wpAnyH _ _ _ _ _ _ _ (Act.put _ (some 130) _) _
    simp only [Act.put, List.setIfInBounds_toArray, List.set_cons_zero, List.set_cons_succ]
    refine wpAnyH_take (i := 80) (v := ?_) rfl (by kernel_rfl) (by kernel_rfl) (by kernel_rfl) (fun _ _ _ h => h) (Or.inl ⟨by rfl, ?_⟩) hHeld ?_
    rotate_left
    · intro u hSu
      (go_simp) <;> (with_reducible rfl)
    change wpAnyH _ _ _ _ _ _ _ (Act.put _ (some 131) _) _
    simp only [Act.put, List.setIfInBounds_toArray, List.set_cons_zero, List.set_cons_succ]
    exact known_st6 (by kernel_rfl) E hQ _ (by kernel_rfl) _ hHeld
  refine AllReadyH.cons rfl (fun K hK => ?_) AllReadyH.nil
  go_simp
  have HBz14 : Hid (Below V.heap.size V (u0.alloc (.cells #[.int .i64 1, .int .i64 2] 3))) := hHeld.alloc hHeld.size _
  have NLz14 : Hid (NumsR (u0.alloc (.cells #[.int .i64 1, .int .i64 2] 3)) (some ⟨u0.heap.size, 0, none⟩) [1, 2]) := nums_madeR u0 [1, 2]
  refine hK.out _ _ ?_ (fun hHeld2 => ?_)
  · exact HBz14.out
  clear hK K hHeld
  have hHeld := hHeld2
  clear hHeld2
  generalize hwz14 : u0.alloc (.cells #[.int .i64 1, .int .i64 2] 3) = z14 at hHeld HBz14 NLz14  ⊢
  clear hwz14
  refine wpAnyH_ready (rs := [74]) (by kernel_rfl) (by simp) ?_
  refine AllReadyH.cons rfl (fun K hK => ?_) AllReadyH.nil
  go_simp
  go_at_call 9
  refine (E.out.ckh _).mono ?_
  rintro e z15 ⟨rfl, hb⟩
  have HBz15 : Hid (Below V.heap.size V z15) := hHeld.trans (hb.mono hHeld.size)
  have NLz15 : Hid (NumsR z15 (some ⟨u0.heap.size, 0, none⟩) [1, 2]) := NLz14.out.past hb
  clear hb
  refine hK.out _ _ ?_ (fun hHeld2 => ?_)
  · exact HBz15.out
  clear hK K hHeld
  have hHeld := hHeld2
  clear hHeld2
  refine wpAnyH_ready (rs := [76]) (by kernel_rfl) (by simp) ?_
  refine AllReadyH.cons rfl (fun K hK => ?_) AllReadyH.nil
  go_simp
  go_at_call 14
  refine (E.out.cc3 _ hHeld).mono ?_
  rintro e z16 ⟨raz16, rcz16, rfl, hn, hb⟩
  have HBz16 : Hid (Below V.heap.size V z16) := hHeld.trans (hb.mono hHeld.size)
  have NLz16 : Hid (NumsR z16 (some ⟨u0.heap.size, 0, none⟩) [1, 2]) := NLz15.out.past hb
  have NAz16 : Hid (NumsR z16 raz16 [1, 2]) := hn.2
  have hrz16 := hn.1
  clear hn
  clear hb
  refine hK.out _ _ ?_ (fun hHeld2 => ?_)
  · exact HBz16.out
  clear hK K hHeld
  have hHeld := hHeld2
  clear hHeld2
  refine wpAnyH_ready (rs := [78]) (by kernel_rfl) (by simp) ?_
  refine AllReadyH.cons rfl (fun K hK => ?_) AllReadyH.nil
  go_simp
  go_at_call 12
  refine (rsame17_any raz16 (some ⟨u0.heap.size, 0, none⟩) 2 rcz16 2 [1, 2] _ rfl hrz16 (Nat.le_refl _) (by omega) NAz16.out NLz16.out).mono ?_
  rintro e z17 ⟨rfl, hb⟩
  have HBz17 : Hid (Below V.heap.size V z17) := hHeld.trans (hb.mono hHeld.size)
  clear hb
  refine hK.out _ _ ?_ (fun hHeld2 => ?_)
  · exact HBz17.out
  clear hK K hHeld
  have hHeld := hHeld2
  clear hHeld2
  refine wpAnyH_take (i := 79) (v := ?_) rfl (by kernel_rfl) (by kernel_rfl) (by kernel_rfl) (fun _ _ _ h => h) (Or.inl ⟨by rfl, ?_⟩) hHeld ?_
  rotate_left
  · intro u hSu
    (go_simp) <;> (with_reducible rfl)
  change wpAnyH _ _ _ _ _ _ _ (Act.put _ (some 130) _) _
  simp only [Act.put, List.setIfInBounds_toArray, List.set_cons_zero, List.set_cons_succ]
  refine wpAnyH_take (i := 80) (v := ?_) rfl (by kernel_rfl) (by kernel_rfl) (by kernel_rfl) (fun _ _ _ h => h) (Or.inl ⟨by rfl, ?_⟩) hHeld ?_
  rotate_left
  · intro u hSu
    (go_simp) <;> (with_reducible rfl)
  change wpAnyH _ _ _ _ _ _ _ (Act.put _ (some 131) _) _
  simp only [Act.put, List.setIfInBounds_toArray, List.set_cons_zero, List.set_cons_succ]
  exact known_st6 (by kernel_rfl) E hQ _ (by kernel_rfl) _ hHeld
set_option maxRecDepth 16000 in
set_option maxHeartbeats 8000000 in
theorem known_st4 {OPS : Array Oper} (hO : opsOfR ((Try.f3.body.bind (findRegR 11)).getD .skip) = OPS) {V : World} {q wb gs b o lc ld : Nat} {lb : Option Addr} {ka kg kh : List Int} (E : Hid (EnvK V q wb gs b o lc lb ld ka kg kh)) {Q : Exit → Act → World → Prop} (hQ : ∀ {y1 y2 y3 y4 y5 y6 y8 y11 y12 y13 y14 y15 y16 y17 y18 y19 y20 y21 y22 y23 y24 y25 y26 y27 y28 y29 y30 y31 y32 y33 y34 y35 y36 y37 y38 y39 y40 y41 y42 y43 y44 y45 y46 y47 y48 y49 y50 y51 y52 y53 y54 y55 y56 y57 y58 y59 y60 y61 y62 y63 y64 y65 y66 y67 y68 y69 y70 y71 y72 y73 y74 y75 y76 y77 y78 y79 y80 y81 y82 y83 y84 y85 y86 y87 y88 y89 y90 y91 y92 y93 y94 y95 y96 y97 y98 y99 y100 y101 y102 y103 y104 y105 y106 y107 y108 y109 y110 y111 y112 y113 y114 y115 y116 y117 y118 y119 y120 y121 y122 y123 y124 y125 y126 y127 y128 y129 y130 y131 y132 y133 y134 y135 y136 y137 y138 y139 y140 y141 y142 y143 y144 y145 y146 : Value} (u : World), Below V.heap.size V u → Q .normal ⟨#[.bool true, y1, y2, y3, y4, y5, y6, .pointer (some ⟨q, 0, none⟩), y8, .slice (some ⟨wb, 0, none⟩) 4 4, .slice (some ⟨gs, 0, none⟩) 3 3, y11, y12, y13, y14, y15, y16, y17, y18, y19, y20, y21, y22, y23, y24, y25, y26, y27, y28, y29, y30, y31, y32, y33, y34, y35, y36, y37, y38, y39, y40, y41, y42, y43, y44, y45, y46, y47, y48, y49, y50, y51, y52, y53, y54, y55, y56, y57, y58, y59, y60, y61, y62, y63, y64, y65, y66, y67, y68, y69, y70, y71, y72, y73, y74, y75, y76, y77, y78, y79, y80, y81, y82, y83, y84, y85, y86, y87, y88, y89, y90, y91, y92, y93, y94, y95, y96, y97, y98, y99, y100, y101, y102, y103, y104, y105, y106, y107, y108, y109, y110, y111, y112, y113, y114, y115, y116, y117, y118, y119, y120, y121, y122, y123, y124, y125, y126, y127, y128, y129, y130, y131, y132, y133, y134, y135, y136, y137, y138, y139, y140, y141, y142, y143, y144, y145, y146], []⟩ u) {x0 x1 x2 x3 x4 x5 x6 x8 x11 x12 x13 x14 x15 x16 x17 x18 x19 x20 x21 x22 x23 x24 x25 x26 x27 x28 x29 x30 x31 x32 x33 x34 x35 x36 x37 x38 x39 x40 x41 x42 x43 x44 x45 x46 x47 x48 x49 x50 x51 x52 x53 x54 x55 x56 x57 x58 x59 x60 x61 x62 x63 x64 x65 x66 x67 x68 x69 x70 x71 x72 x73 x74 x75 x76 x77 x78 x79 x80 x81 x82 x83 x84 x85 x86 x87 x88 x89 x90 x91 x92 x93 x94 x95 x96 x97 x98 x99 x100 x101 x102 x103 x104 x105 x106 x107 x108 x109 x110 x111 x112 x113 x114 x116 x117 x118 x119 x120 x121 x122 x123 x124 x125 x126 x127 x128 x129 x130 x131 x132 x133 x134 x135 x136 x137 x138 x139 x140 x141 x142 x143 x144 x145 x146 : Value} (l : Array Bool) (hl : l = Array.replicate 65 true ++ Array.replicate 32 false) (u0 : World) (hHeld : Below V.heap.size V u0) :
    wpAnyH Try.prog .any OPS (NoPanic Q) (fun u => Below V.heap.size V u) 32 l ⟨#[x0, x1, x2, x3, x4, x5, x6, .pointer (some ⟨q, 0, none⟩), x8, .slice (some ⟨wb, 0, none⟩) 4 4, .slice (some ⟨gs, 0, none⟩) 3 3, x11, x12, x13, x14, x15, x16, x17, x18, x19, x20, x21, x22, x23, x24, x25, x26, x27, x28, x29, x30, x31, x32, x33, x34, x35, x36, x37, x38, x39, x40, x41, x42, x43, x44, x45, x46, x47, x48, x49, x50, x51, x52, x53, x54, x55, x56, x57, x58, x59, x60, x61, x62, x63, x64, x65, x66, x67, x68, x69, x70, x71, x72, x73, x74, x75, x76, x77, x78, x79, x80, x81, x82, x83, x84, x85, x86, x87, x88, x89, x90, x91, x92, x93, x94, x95, x96, x97, x98, x99, x100, x101, x102, x103, x104, x105, x106, x107, x108, x109, x110, x111, x112, x113, x114, .bool true, x116, x117, x118, x119, x120, x121, x122, x123, x124, x125, x126, x127, x128, x129, x130, x131, x132, x133, x134, x135, x136, x137, x138, x139, x140, x141, x142, x143, x144, x145, x146], []⟩ u0 := by
  subst hl
  subst hO
  conv => arg 3; whnf
  refine wpAnyH_take (i := 65) (v := ?_) rfl (by kernel_rfl) (by kernel_rfl) (by kernel_rfl) (fun _ _ _ h => h) (Or.inl ⟨by rfl, ?_⟩) hHeld ?_
  rotate_left
  · intro u hSu
    (go_simp) <;> (with_reducible rfl)
  change wpAnyH _ _ _ _ _ _ _ (Act.put _ (some 116) _) _
  simp only [Act.put, List.setIfInBounds_toArray, List.set_cons_zero, List.set_cons_succ]
  refine wpAnyH_ready (rs := [66, 69]) (by kernel_rfl) (by simp) ?_
  refine AllReadyH.cons rfl (fun K hK => ?_) ?_
  · go_simp
    go_at_call 9
    refine (E.out.cka _).mono ?_
    rintro e z18 ⟨rfl, hb⟩
    have HBz18 : Hid (Below V.heap.size V z18) := hHeld.trans (hb.mono hHeld.size)
    clear hb
    refine hK.out _ _ ?_ (fun hHeld2 => ?_)
    · exact HBz18.out
    clear hK K hHeld
    have hHeld := hHeld2
    clear hHeld2
    refine wpAnyH_ready (rs := [67, 69]) (by kernel_rfl) (by simp) ?_
    refine AllReadyH.cons rfl (fun K hK => ?_) ?_
    · go_simp
      go_at_call 9
      refine (E.out.ckh _).mono ?_
      rintro e z19 ⟨rfl, hb⟩
      have HBz19 : Hid (Below V.heap.size V z19) := hHeld.trans (hb.mono hHeld.size)
      clear hb
      refine hK.out _ _ ?_ (fun hHeld2 => ?_)
      · exact HBz19.out
      clear hK K hHeld
      have hHeld := hHeld2
      clear hHeld2
      refine wpAnyH_ready (rs := [68, 69]) (by kernel_rfl) (by simp) ?_
      refine AllReadyH.cons rfl (fun K hK => ?_) ?_
      · go_simp
        go_at_call 14
        refine (E.out.cc2 _ hHeld).mono ?_
        rintro e z20 ⟨raz20, rcz20, rfl, hn, hb⟩
        have HBz20 : Hid (Below V.heap.size V z20) := hHeld.trans (hb.mono hHeld.size)
        have NAz20 : Hid (NumsR z20 raz20 [0, 1]) := hn.2
        have hrz20 := hn.1
        clear hn
        clear hb
        refine hK.out _ _ ?_ (fun hHeld2 => ?_)
        · exact HBz20.out
        clear hK K hHeld
        have hHeld := hHeld2
        clear hHeld2
        refine wpAnyH_ready (rs := [69]) (by kernel_rfl) (by simp) ?_
        refine AllReadyH.cons rfl (fun K hK => ?_) AllReadyH.nil
        go_simp
        have HBz21 : Hid (Below V.heap.size V (z20.alloc (.cells #[.int .i64 0, .int .i64 1] 3))) := hHeld.alloc hHeld.size _
        have NLz21 : Hid (NumsR (z20.alloc (.cells #[.int .i64 0, .int .i64 1] 3)) (some ⟨z20.heap.size, 0, none⟩) [0, 1]) := nums_madeR z20 [0, 1]
        have NAz21 : Hid (NumsR (z20.alloc (.cells #[.int .i64 0, .int .i64 1] 3)) raz20 [0, 1]) := NAz20.out.past ((Below.refl _ _).alloc (Nat.le_refl _) _)
        refine hK.out _ _ ?_ (fun hHeld2 => ?_)
        · exact HBz21.out
        clear hK K hHeld
        have hHeld := hHeld2
        clear hHeld2
        generalize hwz21 : z20.alloc (.cells #[.int .i64 0, .int .i64 1] 3) = z21 at hHeld HBz21 NLz21 NAz21 ⊢
        clear hwz21
        refine wpAnyH_ready (rs := [70]) (by kernel_rfl) (by simp) ?_
        refine AllReadyH.cons rfl (fun K hK => ?_) AllReadyH.nil
        go_simp
        go_at_call 12
        refine (rsame17_any raz20 (some ⟨z20.heap.size, 0, none⟩) 2 rcz20 2 [0, 1] _ rfl hrz20 (Nat.le_refl _) (by omega) NAz21.out NLz21.out).mono ?_
        rintro e z22 ⟨rfl, hb⟩
        have HBz22 : Hid (Below V.heap.size V z22) := hHeld.trans (hb.mono hHeld.size)
        clear hb
        refine hK.out _ _ ?_ (fun hHeld2 => ?_)
        · exact HBz22.out
        clear hK K hHeld
        have hHeld := hHeld2
        clear hHeld2
        refine wpAnyH_take (i := 71) (v := ?_) rfl (by kernel_rfl) (by kernel_rfl) (by kernel_rfl) (fun _ _ _ h => h) (Or.inl ⟨by rfl, ?_⟩) hHeld ?_
        rotate_left
        · intro u hSu
          (go_simp) <;> (with_reducible rfl)
        change wpAnyH _ _ _ _ _ _ _ (Act.put _ (some 122) _) _
        simp only [Act.put, List.setIfInBounds_toArray, List.set_cons_zero, List.set_cons_succ]
        refine wpAnyH_take (i := 72) (v := ?_) rfl (by kernel_rfl) (by kernel_rfl) (by kernel_rfl) (fun _ _ _ h => h) (Or.inl ⟨by rfl, ?_⟩) hHeld ?_
        rotate_left
        · intro u hSu
          (go_simp) <;> (with_reducible rfl)
        change wpAnyH _ _ _ _ _ _ _ (Act.put _ (some 123) _) _
        simp only [Act.put, List.setIfInBounds_toArray, List.set_cons_zero, List.set_cons_succ]
        exact known_st5 (by kernel_rfl) E hQ _ (by kernel_rfl) _ hHeld
      refine AllReadyH.cons rfl (fun K hK => ?_) AllReadyH.nil
      go_simp
      have HBz23 : Hid (Below V.heap.size V (z19.alloc (.cells #[.int .i64 0, .int .i64 1] 3))) := hHeld.alloc hHeld.size _
      have NLz23 : Hid (NumsR (z19.alloc (.cells #[.int .i64 0, .int .i64 1] 3)) (some ⟨z19.heap.size, 0, none⟩) [0, 1]) := nums_madeR z19 [0, 1]
      refine hK.out _ _ ?_ (fun hHeld2 => ?_)
      · exact HBz23.out
      clear hK K hHeld
      have hHeld := hHeld2
      clear hHeld2
      generalize hwz23 : z19.alloc (.cells #[.int .i64 0, .int .i64 1] 3) = z23 at hHeld HBz23 NLz23  ⊢
      clear hwz23
      refine wpAnyH_ready (rs := [68]) (by kernel_rfl) (by simp) ?_
      refine AllReadyH.cons rfl (fun K hK => ?_) AllReadyH.nil
      go_simp
      go_at_call 14
      refine (E.out.cc2 _ hHeld).mono ?_
      rintro e z24 ⟨raz24, rcz24, rfl, hn, hb⟩
      have HBz24 : Hid (Below V.heap.size V z24) := hHeld.trans (hb.mono hHeld.size)
      have NLz24 : Hid (NumsR z24 (some ⟨z19.heap.size, 0, none⟩) [0, 1]) := NLz23.out.past hb
      have NAz24 : Hid (NumsR z24 raz24 [0, 1]) := hn.2
      have hrz24 := hn.1
      clear hn
      clear hb
      refine hK.out _ _ ?_ (fun hHeld2 => ?_)
      · exact HBz24.out
      clear hK K hHeld
      have hHeld := hHeld2
      clear hHeld2
      refine wpAnyH_ready (rs := [70]) (by kernel_rfl) (by simp) ?_
      refine AllReadyH.cons rfl (fun K hK => ?_) AllReadyH.nil
      go_simp
      go_at_call 12
      refine (rsame17_any raz24 (some ⟨z19.heap.size, 0, none⟩) 2 rcz24 2 [0, 1] _ rfl hrz24 (Nat.le_refl _) (by omega) NAz24.out NLz24.out).mono ?_
      rintro e z25 ⟨rfl, hb⟩
      have HBz25 : Hid (Below V.heap.size V z25) := hHeld.trans (hb.mono hHeld.size)
      clear hb
      refine hK.out _ _ ?_ (fun hHeld2 => ?_)
      · exact HBz25.out
      clear hK K hHeld
      have hHeld := hHeld2
      clear hHeld2
      refine wpAnyH_take (i := 71) (v := ?_) rfl (by kernel_rfl) (by kernel_rfl) (by kernel_rfl) (fun _ _ _ h => h) (Or.inl ⟨by rfl, ?_⟩) hHeld ?_
      rotate_left
      · intro u hSu
        (go_simp) <;> (with_reducible rfl)
      change wpAnyH _ _ _ _ _ _ _ (Act.put _ (some 122) _) _
      simp only [Act.put, List.setIfInBounds_toArray, List.set_cons_zero, List.set_cons_succ]
      refine wpAnyH_take (i := 72) (v := ?_) rfl (by kernel_rfl) (by kernel_rfl) (by kernel_rfl) (fun _ _ _ h => h) (Or.inl ⟨by rfl, ?_⟩) hHeld ?_
      rotate_left
      · intro u hSu
        (go_simp) <;> (with_reducible rfl)
      change wpAnyH _ _ _ _ _ _ _ (Act.put _ (some 123) _) _
      simp only [Act.put, List.setIfInBounds_toArray, List.set_cons_zero, List.set_cons_succ]
      exact known_st5 (by kernel_rfl) E hQ _ (by kernel_rfl) _ hHeld
    refine AllReadyH.cons rfl (fun K hK => ?_) AllReadyH.nil
    go_simp
    have HBz26 : Hid (Below V.heap.size V (z18.alloc (.cells #[.int .i64 0, .int .i64 1] 3))) := hHeld.alloc hHeld.size _
    have NLz26 : Hid (NumsR (z18.alloc (.cells #[.int .i64 0, .int .i64 1] 3)) (some ⟨z18.heap.size, 0, none⟩) [0, 1]) := nums_madeR z18 [0, 1]
    refine hK.out _ _ ?_ (fun hHeld2 => ?_)
    · exact HBz26.out
    clear hK K hHeld
    have hHeld := hHeld2
    clear hHeld2
    generalize hwz26 : z18.alloc (.cells #[.int .i64 0, .int .i64 1] 3) = z26 at hHeld HBz26 NLz26  ⊢
    clear hwz26
    refine wpAnyH_ready (rs := [67]) (by kernel_rfl) (by simp) ?_
    refine AllReadyH.cons rfl (fun K hK => ?_) AllReadyH.nil
    go_simp
    go_at_call 9
    refine (E.out.ckh _).mono ?_
    rintro e z27 ⟨rfl, hb⟩
    have HBz27 : Hid (Below V.heap.size V z27) := hHeld.trans (hb.mono hHeld.size)
    have NLz27 : Hid (NumsR z27 (some ⟨z18.heap.size, 0, none⟩) [0, 1]) := NLz26.out.past hb
    clear hb
    refine hK.out _ _ ?_ (fun hHeld2 => ?_)
    · exact HBz27.out
    clear hK K hHeld
    have hHeld := hHeld2
    clear hHeld2
    refine wpAnyH_ready (rs := [68]) (by kernel_rfl) (by simp) ?_
    refine AllReadyH.cons rfl (fun K hK => ?_) AllReadyH.nil
    go_simp
    go_at_call 14
    refine (E.out.cc2 _ hHeld).mono ?_
    rintro e z28 ⟨raz28, rcz28, rfl, hn, hb⟩
    have HBz28 : Hid (Below V.heap.size V z28) := hHeld.trans (hb.mono hHeld.size)
    have NLz28 : Hid (NumsR z28 (some ⟨z18.heap.size, 0, none⟩) [0, 1]) := NLz27.out.past hb
    have NAz28 : Hid (NumsR z28 raz28 [0, 1]) := hn.2
    have hrz28 := hn.1
    clear hn
    clear hb
    refine hK.out _ _ ?_ (fun hHeld2 => ?_)
    · exact HBz28.out
    clear hK K hHeld
    have hHeld := hHeld2
    clear hHeld2
    refine wpAnyH_ready (rs := [70]) (by kernel_rfl) (by simp) ?_
    refine AllReadyH.cons rfl (fun K hK => ?_) AllReadyH.nil
    go_simp
    go_at_call 12
    refine (rsame17_any raz28 (some ⟨z18.heap.size, 0, none⟩) 2 rcz28 2 [0, 1] _ rfl hrz28 (Nat.le_refl _) (by omega) NAz28.out NLz28.out).mono ?_
    rintro e z29 ⟨rfl, hb⟩
    have HBz29 : Hid (Below V.heap.size V z29) := hHeld.trans (hb.mono hHeld.size)
    clear hb
    refine hK.out _ _ ?_ (fun hHeld2 => ?_)
    · exact HBz29.out
    clear hK K hHeld
    have hHeld := hHeld2
    clear hHeld2
    refine wpAnyH_take (i := 71) (v := ?_) rfl (by kernel_rfl) (by kernel_rfl) (by kernel_rfl) (fun _ _ _ h => h) (Or.inl ⟨by rfl, ?_⟩) hHeld ?_
    rotate_left
    · intro u hSu
      (go_simp) <;> (with_reducible rfl)
    change wpAnyH _ _ _ _ _ _ _ (Act.put _ (some 122) _) _
    simp only [Act.put, List.setIfInBounds_toArray, List.set_cons_zero, List.set_cons_succ]
    refine wpAnyH_take (i := 72) (v := ?_) rfl (by kernel_rfl) (by kernel_rfl) (by kernel_rfl) (fun _ _ _ h => h) (Or.inl ⟨by rfl, ?_⟩) hHeld ?_
    rotate_left
    · intro u hSu
      (go_simp) <;> (with_reducible rfl)
    change wpAnyH _ _ _ _ _ _ _ (Act.put _ (some 123) _) _
    simp only [Act.put, List.setIfInBounds_toArray, List.set_cons_zero, List.set_cons_succ]
    exact known_st5 (by kernel_rfl) E hQ _ (by kernel_rfl) _ hHeld
  refine AllReadyH.cons rfl (fun K hK => ?_) AllReadyH.nil
  go_simp
  have HBz30 : Hid (Below V.heap.size V (u0.alloc (.cells #[.int .i64 0, .int .i64 1] 3))) := hHeld.alloc hHeld.size _
  have NLz30 : Hid (NumsR (u0.alloc (.cells #[.int .i64 0, .int .i64 1] 3)) (some ⟨u0.heap.size, 0, none⟩) [0, 1]) := nums_madeR u0 [0, 1]
  refine hK.out _ _ ?_ (fun hHeld2 => ?_)
  · exact HBz30.out
  clear hK K hHeld
  have hHeld := hHeld2
  clear hHeld2
  generalize hwz30 : u0.alloc (.cells #[.int .i64 0, .int .i64 1] 3) = z30 at hHeld HBz30 NLz30  ⊢
  clear hwz30
  refine wpAnyH_ready (rs := [66]) (by kernel_rfl) (by simp) ?_
  refine AllReadyH.cons rfl (fun K hK => ?_) AllReadyH.nil
  go_simp
  go_at_call 9
  refine (E.out.cka _).mono ?_
  rintro e z31 ⟨rfl, hb⟩
  have HBz31 : Hid (Below V.heap.size V z31) := hHeld.trans (hb.mono hHeld.size)
  have NLz31 : Hid (NumsR z31 (some ⟨u0.heap.size, 0, none⟩) [0, 1]) := NLz30.out.past hb
  clear hb
  refine hK.out _ _ ?_ (fun hHeld2 => ?_)
  · exact HBz31.out
  clear hK K hHeld
  have hHeld := hHeld2
  clear hHeld2
  refine wpAnyH_ready (rs := [67]) (by kernel_rfl) (by simp) ?_
  refine AllReadyH.cons rfl (fun K hK => ?_) AllReadyH.nil
  go_simp
  go_at_call 9
  refine (E.out.ckh _).mono ?_
  rintro e z32 ⟨rfl, hb⟩
  have HBz32 : Hid (Below V.heap.size V z32) := hHeld.trans (hb.mono hHeld.size)
  have NLz32 : Hid (NumsR z32 (some ⟨u0.heap.size, 0, none⟩) [0, 1]) := NLz31.out.past hb
  clear hb
  refine hK.out _ _ ?_ (fun hHeld2 => ?_)
  · exact HBz32.out
  clear hK K hHeld
  have hHeld := hHeld2
  clear hHeld2
  refine wpAnyH_ready (rs := [68]) (by kernel_rfl) (by simp) ?_
  refine AllReadyH.cons rfl (fun K hK => ?_) AllReadyH.nil
  go_simp
  go_at_call 14
  refine (E.out.cc2 _ hHeld).mono ?_
  rintro e z33 ⟨raz33, rcz33, rfl, hn, hb⟩
  have HBz33 : Hid (Below V.heap.size V z33) := hHeld.trans (hb.mono hHeld.size)
  have NLz33 : Hid (NumsR z33 (some ⟨u0.heap.size, 0, none⟩) [0, 1]) := NLz32.out.past hb
  have NAz33 : Hid (NumsR z33 raz33 [0, 1]) := hn.2
  have hrz33 := hn.1
  clear hn
  clear hb
  refine hK.out _ _ ?_ (fun hHeld2 => ?_)
  · exact HBz33.out
  clear hK K hHeld
  have hHeld := hHeld2
  clear hHeld2
  refine wpAnyH_ready (rs := [70]) (by kernel_rfl) (by simp) ?_
  refine AllReadyH.cons rfl (fun K hK => ?_) AllReadyH.nil
  go_simp
  go_at_call 12
  refine (rsame17_any raz33 (some ⟨u0.heap.size, 0, none⟩) 2 rcz33 2 [0, 1] _ rfl hrz33 (Nat.le_refl _) (by omega) NAz33.out NLz33.out).mono ?_
  rintro e z34 ⟨rfl, hb⟩
  have HBz34 : Hid (Below V.heap.size V z34) := hHeld.trans (hb.mono hHeld.size)
  clear hb
  refine hK.out _ _ ?_ (fun hHeld2 => ?_)
  · exact HBz34.out
  clear hK K hHeld
  have hHeld := hHeld2
  clear hHeld2
  refine wpAnyH_take (i := 71) (v := ?_) rfl (by kernel_rfl) (by kernel_rfl) (by kernel_rfl) (fun _ _ _ h => h) (Or.inl ⟨by rfl, ?_⟩) hHeld ?_
  rotate_left
  · intro u hSu
    (go_simp) <;> (with_reducible rfl)
  change wpAnyH _ _ _ _ _ _ _ (Act.put _ (some 122) _) _
  simp only [Act.put, List.setIfInBounds_toArray, List.set_cons_zero, List.set_cons_succ]
  refine wpAnyH_take (i := 72) (v := ?_) rfl (by kernel_rfl) (by kernel_rfl) (by kernel_rfl) (fun _ _ _ h => h) (Or.inl ⟨by rfl, ?_⟩) hHeld ?_
  rotate_left
  · intro u hSu
    (go_simp) <;> (with_reducible rfl)
  change wpAnyH _ _ _ _ _ _ _ (Act.put _ (some 123) _) _
  simp only [Act.put, List.setIfInBounds_toArray, List.set_cons_zero, List.set_cons_succ]
  exact known_st5 (by kernel_rfl) E hQ _ (by kernel_rfl) _ hHeld
set_option maxRecDepth 16000 in
set_option maxHeartbeats 8000000 in
theorem known_st3 {OPS : Array Oper} (hO : opsOfR ((Try.f3.body.bind (findRegR 11)).getD .skip) = OPS) {V : World} {q wb gs b o lc ld : Nat} {lb : Option Addr} {ka kg kh : List Int} (E : Hid (EnvK V q wb gs b o lc lb ld ka kg kh)) {Q : Exit → Act → World → Prop} (hQ : ∀ {y1 y2 y3 y4 y5 y6 y8 y11 y12 y13 y14 y15 y16 y17 y18 y19 y20 y21 y22 y23 y24 y25 y26 y27 y28 y29 y30 y31 y32 y33 y34 y35 y36 y37 y38 y39 y40 y41 y42 y43 y44 y45 y46 y47 y48 y49 y50 y51 y52 y53 y54 y55 y56 y57 y58 y59 y60 y61 y62 y63 y64 y65 y66 y67 y68 y69 y70 y71 y72 y73 y74 y75 y76 y77 y78 y79 y80 y81 y82 y83 y84 y85 y86 y87 y88 y89 y90 y91 y92 y93 y94 y95 y96 y97 y98 y99 y100 y101 y102 y103 y104 y105 y106 y107 y108 y109 y110 y111 y112 y113 y114 y115 y116 y117 y118 y119 y120 y121 y122 y123 y124 y125 y126 y127 y128 y129 y130 y131 y132 y133 y134 y135 y136 y137 y138 y139 y140 y141 y142 y143 y144 y145 y146 : Value} (u : World), Below V.heap.size V u → Q .normal ⟨#[.bool true, y1, y2, y3, y4, y5, y6, .pointer (some ⟨q, 0, none⟩), y8, .slice (some ⟨wb, 0, none⟩) 4 4, .slice (some ⟨gs, 0, none⟩) 3 3, y11, y12, y13, y14, y15, y16, y17, y18, y19, y20, y21, y22, y23, y24, y25, y26, y27, y28, y29, y30, y31, y32, y33, y34, y35, y36, y37, y38, y39, y40, y41, y42, y43, y44, y45, y46, y47, y48, y49, y50, y51, y52, y53, y54, y55, y56, y57, y58, y59, y60, y61, y62, y63, y64, y65, y66, y67, y68, y69, y70, y71, y72, y73, y74, y75, y76, y77, y78, y79, y80, y81, y82, y83, y84, y85, y86, y87, y88, y89, y90, y91, y92, y93, y94, y95, y96, y97, y98, y99, y100, y101, y102, y103, y104, y105, y106, y107, y108, y109, y110, y111, y112, y113, y114, y115, y116, y117, y118, y119, y120, y121, y122, y123, y124, y125, y126, y127, y128, y129, y130, y131, y132, y133, y134, y135, y136, y137, y138, y139, y140, y141, y142, y143, y144, y145, y146], []⟩ u) {x0 x1 x2 x3 x4 x5 x6 x8 x11 x12 x13 x14 x15 x16 x17 x18 x19 x20 x21 x22 x23 x24 x25 x26 x27 x28 x29 x30 x31 x32 x33 x34 x35 x36 x37 x38 x39 x40 x41 x42 x43 x44 x45 x46 x47 x48 x49 x50 x51 x52 x53 x54 x55 x56 x57 x58 x59 x60 x61 x62 x63 x64 x65 x66 x67 x68 x69 x70 x71 x72 x73 x74 x75 x76 x77 x78 x79 x80 x81 x82 x83 x84 x85 x86 x87 x88 x89 x90 x91 x92 x93 x94 x95 x96 x97 x98 x99 x100 x101 x102 x103 x104 x105 x106 x108 x109 x110 x111 x112 x113 x114 x115 x116 x117 x118 x119 x120 x121 x122 x123 x124 x125 x126 x127 x128 x129 x130 x131 x132 x133 x134 x135 x136 x137 x138 x139 x140 x141 x142 x143 x144 x145 x146 : Value} (l : Array Bool) (hl : l = Array.replicate 57 true ++ Array.replicate 40 false) (u0 : World) (hHeld : Below V.heap.size V u0) :
    wpAnyH Try.prog .any OPS (NoPanic Q) (fun u => Below V.heap.size V u) 40 l ⟨#[x0, x1, x2, x3, x4, x5, x6, .pointer (some ⟨q, 0, none⟩), x8, .slice (some ⟨wb, 0, none⟩) 4 4, .slice (some ⟨gs, 0, none⟩) 3 3, x11, x12, x13, x14, x15, x16, x17, x18, x19, x20, x21, x22, x23, x24, x25, x26, x27, x28, x29, x30, x31, x32, x33, x34, x35, x36, x37, x38, x39, x40, x41, x42, x43, x44, x45, x46, x47, x48, x49, x50, x51, x52, x53, x54, x55, x56, x57, x58, x59, x60, x61, x62, x63, x64, x65, x66, x67, x68, x69, x70, x71, x72, x73, x74, x75, x76, x77, x78, x79, x80, x81, x82, x83, x84, x85, x86, x87, x88, x89, x90, x91, x92, x93, x94, x95, x96, x97, x98, x99, x100, x101, x102, x103, x104, x105, x106, .bool true, x108, x109, x110, x111, x112, x113, x114, x115, x116, x117, x118, x119, x120, x121, x122, x123, x124, x125, x126, x127, x128, x129, x130, x131, x132, x133, x134, x135, x136, x137, x138, x139, x140, x141, x142, x143, x144, x145, x146], []⟩ u0 := by
  subst hl
  subst hO
  conv => arg 3; whnf
  refine wpAnyH_take (i := 57) (v := ?_) rfl (by kernel_rfl) (by kernel_rfl) (by kernel_rfl) (fun _ _ _ h => h) (Or.inl ⟨by rfl, ?_⟩) hHeld ?_
  rotate_left
  · intro u hSu
    (go_simp) <;> (with_reducible rfl)
  change wpAnyH _ _ _ _ _ _ _ (Act.put _ (some 108) _) _
  simp only [Act.put, List.setIfInBounds_toArray, List.set_cons_zero, List.set_cons_succ]
  refine wpAnyH_ready (rs := [58, 61]) (by kernel_rfl) (by simp) ?_
  refine AllReadyH.cons rfl (fun K hK => ?_) ?_
  · go_simp
    go_at_call 9
    refine (E.out.cka _).mono ?_
    rintro e z35 ⟨rfl, hb⟩
    have HBz35 : Hid (Below V.heap.size V z35) := hHeld.trans (hb.mono hHeld.size)
    clear hb
    refine hK.out _ _ ?_ (fun hHeld2 => ?_)
    · exact HBz35.out
    clear hK K hHeld
    have hHeld := hHeld2
    clear hHeld2
    refine wpAnyH_ready (rs := [59, 61]) (by kernel_rfl) (by simp) ?_
    refine AllReadyH.cons rfl (fun K hK => ?_) ?_
    · go_simp
      go_at_call 9
      refine (E.out.ckg _).mono ?_
      rintro e z36 ⟨rfl, hb⟩
      have HBz36 : Hid (Below V.heap.size V z36) := hHeld.trans (hb.mono hHeld.size)
      clear hb
      refine hK.out _ _ ?_ (fun hHeld2 => ?_)
      · exact HBz36.out
      clear hK K hHeld
      have hHeld := hHeld2
      clear hHeld2
      refine wpAnyH_ready (rs := [60, 61]) (by kernel_rfl) (by simp) ?_
      refine AllReadyH.cons rfl (fun K hK => ?_) ?_
      · go_simp
        go_at_call 14
        refine (E.out.cc1 _ hHeld).mono ?_
        rintro e z37 ⟨raz37, rcz37, rfl, hn, hb⟩
        have HBz37 : Hid (Below V.heap.size V z37) := hHeld.trans (hb.mono hHeld.size)
        have NAz37 : Hid (NumsR z37 raz37 [0]) := hn.2
        have hrz37 := hn.1
        clear hn
        clear hb
        refine hK.out _ _ ?_ (fun hHeld2 => ?_)
        · exact HBz37.out
        clear hK K hHeld
        have hHeld := hHeld2
        clear hHeld2
        refine wpAnyH_ready (rs := [61]) (by kernel_rfl) (by simp) ?_
        refine AllReadyH.cons rfl (fun K hK => ?_) AllReadyH.nil
        go_simp
        have HBz38 : Hid (Below V.heap.size V (z37.alloc (.cells #[.int .i64 0] 3))) := hHeld.alloc hHeld.size _
        have NLz38 : Hid (NumsR (z37.alloc (.cells #[.int .i64 0] 3)) (some ⟨z37.heap.size, 0, none⟩) [0]) := nums_madeR z37 [0]
        have NAz38 : Hid (NumsR (z37.alloc (.cells #[.int .i64 0] 3)) raz37 [0]) := NAz37.out.past ((Below.refl _ _).alloc (Nat.le_refl _) _)
        refine hK.out _ _ ?_ (fun hHeld2 => ?_)
        · exact HBz38.out
        clear hK K hHeld
        have hHeld := hHeld2
        clear hHeld2
        generalize hwz38 : z37.alloc (.cells #[.int .i64 0] 3) = z38 at hHeld HBz38 NLz38 NAz38 ⊢
        clear hwz38
        refine wpAnyH_ready (rs := [62]) (by kernel_rfl) (by simp) ?_
        refine AllReadyH.cons rfl (fun K hK => ?_) AllReadyH.nil
        go_simp
        go_at_call 12
        refine (rsame17_any raz37 (some ⟨z37.heap.size, 0, none⟩) 1 rcz37 1 [0] _ rfl hrz37 (Nat.le_refl _) (by omega) NAz38.out NLz38.out).mono ?_
        rintro e z39 ⟨rfl, hb⟩
        have HBz39 : Hid (Below V.heap.size V z39) := hHeld.trans (hb.mono hHeld.size)
        clear hb
        refine hK.out _ _ ?_ (fun hHeld2 => ?_)
        · exact HBz39.out
        clear hK K hHeld
        have hHeld := hHeld2
        clear hHeld2
        refine wpAnyH_take (i := 63) (v := ?_) rfl (by kernel_rfl) (by kernel_rfl) (by kernel_rfl) (fun _ _ _ h => h) (Or.inl ⟨by rfl, ?_⟩) hHeld ?_
        rotate_left
        · intro u hSu
          (go_simp) <;> (with_reducible rfl)
        change wpAnyH _ _ _ _ _ _ _ (Act.put _ (some 114) _) _
        simp only [Act.put, List.setIfInBounds_toArray, List.set_cons_zero, List.set_cons_succ]
        refine wpAnyH_take (i := 64) (v := ?_) rfl (by kernel_rfl) (by kernel_rfl) (by kernel_rfl) (fun _ _ _ h => h) (Or.inl ⟨by rfl, ?_⟩) hHeld ?_
        rotate_left
        · intro u hSu
          (go_simp) <;> (with_reducible rfl)
        change wpAnyH _ _ _ _ _ _ _ (Act.put _ (some 115) _) _
        simp only [Act.put, List.setIfInBounds_toArray, List.set_cons_zero, List.set_cons_succ]
        exact known_st4 (by kernel_rfl) E hQ _ (by kernel_rfl) _ hHeld
      refine AllReadyH.cons rfl (fun K hK => ?_) AllReadyH.nil
      go_simp
      have HBz40 : Hid (Below V.heap.size V (z36.alloc (.cells #[.int .i64 0] 3))) := hHeld.alloc hHeld.size _
      have NLz40 : Hid (NumsR (z36.alloc (.cells #[.int .i64 0] 3)) (some ⟨z36.heap.size, 0, none⟩) [0]) := nums_madeR z36 [0]
      refine hK.out _ _ ?_ (fun hHeld2 => ?_)
      · exact HBz40.out
      clear hK K hHeld
      have hHeld := hHeld2
      clear hHeld2
      generalize hwz40 : z36.alloc (.cells #[.int .i64 0] 3) = z40 at hHeld HBz40 NLz40  ⊢
      clear hwz40
      refine wpAnyH_ready (rs := [60]) (by kernel_rfl) (by simp) ?_
      refine AllReadyH.cons rfl (fun K hK => ?_) AllReadyH.nil
      go_simp
      go_at_call 14
      refine (E.out.cc1 _ hHeld).mono ?_
      rintro e z41 ⟨raz41, rcz41, rfl, hn, hb⟩
      have HBz41 : Hid (Below V.heap.size V z41) := hHeld.trans (hb.mono hHeld.size)
      have NLz41 : Hid (NumsR z41 (some ⟨z36.heap.size, 0, none⟩) [0]) := NLz40.out.past hb
      have NAz41 : Hid (NumsR z41 raz41 [0]) := hn.2
      have hrz41 := hn.1
      clear hn
      clear hb
      refine hK.out _ _ ?_ (fun hHeld2 => ?_)
      · exact HBz41.out
      clear hK K hHeld
      have hHeld := hHeld2
      clear hHeld2
      refine wpAnyH_ready (rs := [62]) (by kernel_rfl) (by simp) ?_
      refine AllReadyH.cons rfl (fun K hK => ?_) AllReadyH.nil
      go_simp
      go_at_call 12
      refine (rsame17_any raz41 (some ⟨z36.heap.size, 0, none⟩) 1 rcz41 1 [0] _ rfl hrz41 (Nat.le_refl _) (by omega) NAz41.out NLz41.out).mono ?_
      rintro e z42 ⟨rfl, hb⟩
      have HBz42 : Hid (Below V.heap.size V z42) := hHeld.trans (hb.mono hHeld.size)
      clear hb
      refine hK.out _ _ ?_ (fun hHeld2 => ?_)
      · exact HBz42.out
      clear hK K hHeld
      have hHeld := hHeld2
      clear hHeld2
      refine wpAnyH_take (i := 63) (v := ?_) rfl (by kernel_rfl) (by kernel_rfl) (by kernel_rfl) (fun _ _ _ h => h) (Or.inl ⟨by rfl, ?_⟩) hHeld ?_
      rotate_left
      · intro u hSu
        (go_simp) <;> (with_reducible rfl)
      change wpAnyH _ _ _ _ _ _ _ (Act.put _ (some 114) _) _
      simp only [Act.put, List.setIfInBounds_toArray, List.set_cons_zero, List.set_cons_succ]
      refine wpAnyH_take (i := 64) (v := ?_) rfl (by kernel_rfl) (by kernel_rfl) (by kernel_rfl) (fun _ _ _ h => h) (Or.inl ⟨by rfl, ?_⟩) hHeld ?_
      rotate_left
      · intro u hSu
        (go_simp) <;> (with_reducible rfl)
      change wpAnyH _ _ _ _ _ _ _ (Act.put _ (some 115) _) _
      simp only [Act.put, List.setIfInBounds_toArray, List.set_cons_zero, List.set_cons_succ]
      exact known_st4 (by kernel_rfl) E hQ _ (by kernel_rfl) _ hHeld
    refine AllReadyH.cons rfl (fun K hK => ?_) AllReadyH.nil
    go_simp
    have HBz43 : Hid (Below V.heap.size V (z35.alloc (.cells #[.int .i64 0] 3))) := hHeld.alloc hHeld.size _
    have NLz43 : Hid (NumsR (z35.alloc (.cells #[.int .i64 0] 3)) (some ⟨z35.heap.size, 0, none⟩) [0]) := nums_madeR z35 [0]
    refine hK.out _ _ ?_ (fun hHeld2 => ?_)
    · exact HBz43.out
    clear hK K hHeld
    have hHeld := hHeld2
    clear hHeld2
    generalize hwz43 : z35.alloc (.cells #[.int .i64 0] 3) = z43 at hHeld HBz43 NLz43  ⊢
    clear hwz43
    refine wpAnyH_ready (rs := [59]) (by kernel_rfl) (by simp) ?_
    refine AllReadyH.cons rfl (fun K hK => ?_) AllReadyH.nil
    go_simp
    go_at_call 9
    refine (E.out.ckg _).mono ?_
    rintro e z44 ⟨rfl, hb⟩
    have HBz44 : Hid (Below V.heap.size V z44) := hHeld.trans (hb.mono hHeld.size)
    have NLz44 : Hid (NumsR z44 (some ⟨z35.heap.size, 0, none⟩) [0]) := NLz43.out.past hb
    clear hb
    refine hK.out _ _ ?_ (fun hHeld2 => ?_)
    · exact HBz44.out
    clear hK K hHeld
    have hHeld := hHeld2
    clear hHeld2
    refine wpAnyH_ready (rs := [60]) (by kernel_rfl) (by simp) ?_
    refine AllReadyH.cons rfl (fun K hK => ?_) AllReadyH.nil
    go_simp
    go_at_call 14
    refine (E.out.cc1 _ hHeld).mono ?_
    rintro e z45 ⟨raz45, rcz45, rfl, hn, hb⟩
    have HBz45 : Hid (Below V.heap.size V z45) := hHeld.trans (hb.mono hHeld.size)
    have NLz45 : Hid (NumsR z45 (some ⟨z35.heap.size, 0, none⟩) [0]) := NLz44.out.past hb
    have NAz45 : Hid (NumsR z45 raz45 [0]) := hn.2
    have hrz45 := hn.1
    clear hn
    clear hb
    refine hK.out _ _ ?_ (fun hHeld2 => ?_)
    · exact HBz45.out
    clear hK K hHeld
    have hHeld := hHeld2
    clear hHeld2
    refine wpAnyH_ready (rs := [62]) (by kernel_rfl) (by simp) ?_
    refine AllReadyH.cons rfl (fun K hK => ?_) AllReadyH.nil
    go_simp
    go_at_call 12
    refine (rsame17_any raz45 (some ⟨z35.heap.size, 0, none⟩) 1 rcz45 1 [0] _ rfl hrz45 (Nat.le_refl _) (by omega) NAz45.out NLz45.out).mono ?_
    rintro e z46 ⟨rfl, hb⟩
    have HBz46 : Hid (Below V.heap.size V z46) := hHeld.trans (hb.mono hHeld.size)
    clear hb
    refine hK.out _ _ ?_ (fun hHeld2 => ?_)
    · exact HBz46.out
    clear hK K hHeld
    have hHeld := hHeld2
    clear hHeld2
    refine wpAnyH_take (i := 63) (v := ?_) rfl (by kernel_rfl) (by kernel_rfl) (by kernel_rfl) (fun _ _ _ h => h) (Or.inl ⟨by rfl, ?_⟩) hHeld ?_
    rotate_left
    · intro u hSu
      (go_simp) <;> (with_reducible rfl)
    change wpAnyH _ _ _ _ _ _ _ (Act.put _ (some 114) _) _
    simp only [Act.put, List.setIfInBounds_toArray, List.set_cons_zero, List.set_cons_succ]
    refine wpAnyH_take (i := 64) (v := ?_) rfl (by kernel_rfl) (by kernel_rfl) (by kernel_rfl) (fun _ _ _ h => h) (Or.inl ⟨by rfl, ?_⟩) hHeld ?_
    rotate_left
    · intro u hSu
      (go_simp) <;> (with_reducible rfl)
    change wpAnyH _ _ _ _ _ _ _ (Act.put _ (some 115) _) _
    simp only [Act.put, List.setIfInBounds_toArray, List.set_cons_zero, List.set_cons_succ]
    exact known_st4 (by kernel_rfl) E hQ _ (by kernel_rfl) _ hHeld
  refine AllReadyH.cons rfl (fun K hK => ?_) AllReadyH.nil
  go_simp
  have HBz47 : Hid (Below V.heap.size V (u0.alloc (.cells #[.int .i64 0] 3))) := hHeld.alloc hHeld.size _
  have NLz47 : Hid (NumsR (u0.alloc (.cells #[.int .i64 0] 3)) (some ⟨u0.heap.size, 0, none⟩) [0]) := nums_madeR u0 [0]
  refine hK.out _ _ ?_ (fun hHeld2 => ?_)
  · exact HBz47.out
  clear hK K hHeld
  have hHeld := hHeld2
  clear hHeld2
  generalize hwz47 : u0.alloc (.cells #[.int .i64 0] 3) = z47 at hHeld HBz47 NLz47  ⊢
  clear hwz47
  refine wpAnyH_ready (rs := [58]) (by kernel_rfl) (by simp) ?_
  refine AllReadyH.cons rfl (fun K hK => ?_) AllReadyH.nil
  go_simp
  go_at_call 9
  refine (E.out.cka _).mono ?_
  rintro e z48 ⟨rfl, hb⟩
  have HBz48 : Hid (Below V.heap.size V z48) := hHeld.trans (hb.mono hHeld.size)
  have NLz48 : Hid (NumsR z48 (some ⟨u0.heap.size, 0, none⟩) [0]) := NLz47.out.past hb
  clear hb
  refine hK.out _ _ ?_ (fun hHeld2 => ?_)
  · exact HBz48.out
  clear hK K hHeld
  have hHeld := hHeld2
  clear hHeld2
  refine wpAnyH_ready (rs := [59]) (by kernel_rfl) (by simp) ?_
  refine AllReadyH.cons rfl (fun K hK => ?_) AllReadyH.nil
  go_simp
  go_at_call 9
  refine (E.out.ckg _).mono ?_
  rintro e z49 ⟨rfl, hb⟩
  have HBz49 : Hid (Below V.heap.size V z49) := hHeld.trans (hb.mono hHeld.size)
  have NLz49 : Hid (NumsR z49 (some ⟨u0.heap.size, 0, none⟩) [0]) := NLz48.out.past hb
  clear hb
  refine hK.out _ _ ?_ (fun hHeld2 => ?_)
  · exact HBz49.out
  clear hK K hHeld
  have hHeld := hHeld2
  clear hHeld2
  refine wpAnyH_ready (rs := [60]) (by kernel_rfl) (by simp) ?_
  refine AllReadyH.cons rfl (fun K hK => ?_) AllReadyH.nil
  go_simp
  go_at_call 14
  refine (E.out.cc1 _ hHeld).mono ?_
  rintro e z50 ⟨raz50, rcz50, rfl, hn, hb⟩
  have HBz50 : Hid (Below V.heap.size V z50) := hHeld.trans (hb.mono hHeld.size)
  have NLz50 : Hid (NumsR z50 (some ⟨u0.heap.size, 0, none⟩) [0]) := NLz49.out.past hb
  have NAz50 : Hid (NumsR z50 raz50 [0]) := hn.2
  have hrz50 := hn.1
  clear hn
  clear hb
  refine hK.out _ _ ?_ (fun hHeld2 => ?_)
  · exact HBz50.out
  clear hK K hHeld
  have hHeld := hHeld2
  clear hHeld2
  refine wpAnyH_ready (rs := [62]) (by kernel_rfl) (by simp) ?_
  refine AllReadyH.cons rfl (fun K hK => ?_) AllReadyH.nil
  go_simp
  go_at_call 12
  refine (rsame17_any raz50 (some ⟨u0.heap.size, 0, none⟩) 1 rcz50 1 [0] _ rfl hrz50 (Nat.le_refl _) (by omega) NAz50.out NLz50.out).mono ?_
  rintro e z51 ⟨rfl, hb⟩
  have HBz51 : Hid (Below V.heap.size V z51) := hHeld.trans (hb.mono hHeld.size)
  clear hb
  refine hK.out _ _ ?_ (fun hHeld2 => ?_)
  · exact HBz51.out
  clear hK K hHeld
  have hHeld := hHeld2
  clear hHeld2
  refine wpAnyH_take (i := 63) (v := ?_) rfl (by kernel_rfl) (by kernel_rfl) (by kernel_rfl) (fun _ _ _ h => h) (Or.inl ⟨by rfl, ?_⟩) hHeld ?_
  rotate_left
  · intro u hSu
    (go_simp) <;> (with_reducible rfl)
  change wpAnyH _ _ _ _ _ _ _ (Act.put _ (some 114) _) _
  simp only [Act.put, List.setIfInBounds_toArray, List.set_cons_zero, List.set_cons_succ]
  refine wpAnyH_take (i := 64) (v := ?_) rfl (by kernel_rfl) (by kernel_rfl) (by kernel_rfl) (fun _ _ _ h => h) (Or.inl ⟨by rfl, ?_⟩) hHeld ?_
  rotate_left
  · intro u hSu
    (go_simp) <;> (with_reducible rfl)
  change wpAnyH _ _ _ _ _ _ _ (Act.put _ (some 115) _) _
  simp only [Act.put, List.setIfInBounds_toArray, List.set_cons_zero, List.set_cons_succ]
  exact known_st4 (by kernel_rfl) E hQ _ (by kernel_rfl) _ hHeld
set_option maxRecDepth 16000 in
set_option maxHeartbeats 8000000 in
theorem known_st2 {OPS : Array Oper} (hO : opsOfR ((Try.f3.body.bind (findRegR 11)).getD .skip) = OPS) {V : World} {q wb gs b o lc ld : Nat} {lb : Option Addr} {ka kg kh : List Int} (E : Hid (EnvK V q wb gs b o lc lb ld ka kg kh)) {Q : Exit → Act → World → Prop} (hQ : ∀ {y1 y2 y3 y4 y5 y6 y8 y11 y12 y13 y14 y15 y16 y17 y18 y19 y20 y21 y22 y23 y24 y25 y26 y27 y28 y29 y30 y31 y32 y33 y34 y35 y36 y37 y38 y39 y40 y41 y42 y43 y44 y45 y46 y47 y48 y49 y50 y51 y52 y53 y54 y55 y56 y57 y58 y59 y60 y61 y62 y63 y64 y65 y66 y67 y68 y69 y70 y71 y72 y73 y74 y75 y76 y77 y78 y79 y80 y81 y82 y83 y84 y85 y86 y87 y88 y89 y90 y91 y92 y93 y94 y95 y96 y97 y98 y99 y100 y101 y102 y103 y104 y105 y106 y107 y108 y109 y110 y111 y112 y113 y114 y115 y116 y117 y118 y119 y120 y121 y122 y123 y124 y125 y126 y127 y128 y129 y130 y131 y132 y133 y134 y135 y136 y137 y138 y139 y140 y141 y142 y143 y144 y145 y146 : Value} (u : World), Below V.heap.size V u → Q .normal ⟨#[.bool true, y1, y2, y3, y4, y5, y6, .pointer (some ⟨q, 0, none⟩), y8, .slice (some ⟨wb, 0, none⟩) 4 4, .slice (some ⟨gs, 0, none⟩) 3 3, y11, y12, y13, y14, y15, y16, y17, y18, y19, y20, y21, y22, y23, y24, y25, y26, y27, y28, y29, y30, y31, y32, y33, y34, y35, y36, y37, y38, y39, y40, y41, y42, y43, y44, y45, y46, y47, y48, y49, y50, y51, y52, y53, y54, y55, y56, y57, y58, y59, y60, y61, y62, y63, y64, y65, y66, y67, y68, y69, y70, y71, y72, y73, y74, y75, y76, y77, y78, y79, y80, y81, y82, y83, y84, y85, y86, y87, y88, y89, y90, y91, y92, y93, y94, y95, y96, y97, y98, y99, y100, y101, y102, y103, y104, y105, y106, y107, y108, y109, y110, y111, y112, y113, y114, y115, y116, y117, y118, y119, y120, y121, y122, y123, y124, y125, y126, y127, y128, y129, y130, y131, y132, y133, y134, y135, y136, y137, y138, y139, y140, y141, y142, y143, y144, y145, y146], []⟩ u) {x0 x1 x2 x3 x4 x5 x6 x8 x11 x12 x13 x14 x15 x16 x17 x18 x19 x20 x21 x22 x23 x24 x25 x26 x27 x28 x29 x30 x31 x32 x33 x34 x35 x36 x37 x38 x39 x40 x41 x42 x43 x44 x45 x46 x47 x48 x49 x50 x51 x52 x53 x54 x55 x56 x57 x58 x59 x60 x61 x62 x63 x64 x65 x66 x67 x68 x69 x70 x71 x72 x73 x74 x75 x76 x77 x79 x80 x81 x82 x83 x84 x85 x86 x87 x88 x89 x90 x91 x92 x93 x94 x95 x96 x97 x98 x99 x100 x101 x102 x103 x104 x105 x106 x107 x108 x109 x110 x111 x112 x113 x114 x115 x116 x117 x118 x119 x120 x121 x122 x123 x124 x125 x126 x127 x128 x129 x130 x131 x132 x133 x134 x135 x136 x137 x138 x139 x140 x141 x142 x143 x144 x145 x146 : Value} (l : Array Bool) (hl : l = Array.replicate 28 true ++ Array.replicate 69 false) (u0 : World) (hHeld : Below V.heap.size V u0) :
    wpAnyH Try.prog .any OPS (NoPanic Q) (fun u => Below V.heap.size V u) 69 l ⟨#[x0, x1, x2, x3, x4, x5, x6, .pointer (some ⟨q, 0, none⟩), x8, .slice (some ⟨wb, 0, none⟩) 4 4, .slice (some ⟨gs, 0, none⟩) 3 3, x11, x12, x13, x14, x15, x16, x17, x18, x19, x20, x21, x22, x23, x24, x25, x26, x27, x28, x29, x30, x31, x32, x33, x34, x35, x36, x37, x38, x39, x40, x41, x42, x43, x44, x45, x46, x47, x48, x49, x50, x51, x52, x53, x54, x55, x56, x57, x58, x59, x60, x61, x62, x63, x64, x65, x66, x67, x68, x69, x70, x71, x72, x73, x74, x75, x76, x77, .bool true, x79, x80, x81, x82, x83, x84, x85, x86, x87, x88, x89, x90, x91, x92, x93, x94, x95, x96, x97, x98, x99, x100, x101, x102, x103, x104, x105, x106, x107, x108, x109, x110, x111, x112, x113, x114, x115, x116, x117, x118, x119, x120, x121, x122, x123, x124, x125, x126, x127, x128, x129, x130, x131, x132, x133, x134, x135, x136, x137, x138, x139, x140, x141, x142, x143, x144, x145, x146], []⟩ u0 := by
  subst hl
  subst hO
  conv => arg 3; whnf
  refine wpAnyH_take (i := 28) (v := ?_) rfl (by kernel_rfl) (by kernel_rfl) (by kernel_rfl) (fun _ _ _ h => h) (Or.inl ⟨by rfl, ?_⟩) hHeld ?_
  rotate_left
  · intro u hSu
    (go_simp) <;> (with_reducible rfl)
  change wpAnyH _ _ _ _ _ _ _ (Act.put _ (some 79) _) _
  simp only [Act.put, List.setIfInBounds_toArray, List.set_cons_zero, List.set_cons_succ]
  refine wpAnyH_take (i := 29) (v := ?_) rfl (by kernel_rfl) (by kernel_rfl) (by kernel_rfl) (fun _ _ _ h => h) (Or.inl ⟨by rfl, ?_⟩) hHeld ?_
  rotate_left
  · intro u hSu
    (go_simp) <;> (with_reducible rfl)
  change wpAnyH _ _ _ _ _ _ _ (Act.put _ (some 80) _) _
  simp only [Act.put, List.setIfInBounds_toArray, List.set_cons_zero, List.set_cons_succ]
  refine wpAnyH_take (i := 30) (v := ?_) rfl (by kernel_rfl) (by kernel_rfl) (by kernel_rfl) (fun _ _ _ h => h) (Or.inl ⟨by rfl, ?_⟩) hHeld ?_
  rotate_left
  · intro u hSu
    (go_simp) <;> (with_reducible rfl)
  change wpAnyH _ _ _ _ _ _ _ (Act.put _ (some 81) _) _
  simp only [Act.put, List.setIfInBounds_toArray, List.set_cons_zero, List.set_cons_succ]
  refine wpAnyH_take (i := 31) (v := ?_) rfl (by kernel_rfl) (by kernel_rfl) (by kernel_rfl) (fun _ _ _ h => h) (Or.inl ⟨by rfl, ?_⟩) hHeld ?_
  rotate_left
  · intro u hSu
    (go_simp) <;> (with_reducible rfl)
  change wpAnyH _ _ _ _ _ _ _ (Act.put _ (some 82) _) _
  simp only [Act.put, List.setIfInBounds_toArray, List.set_cons_zero, List.set_cons_succ]
  refine wpAnyH_take (i := 32) (v := ?_) rfl (by kernel_rfl) (by kernel_rfl) (by kernel_rfl) (fun _ _ _ h => h) (Or.inl ⟨by rfl, ?_⟩) hHeld ?_
  rotate_left
  · intro u hSu
    (go_simp) <;> (with_reducible rfl)
  change wpAnyH _ _ _ _ _ _ _ (Act.put _ (some 83) _) _
  simp only [Act.put, List.setIfInBounds_toArray, List.set_cons_zero, List.set_cons_succ]
  refine wpAnyH_take (i := 33) (v := ?_) rfl (by kernel_rfl) (by kernel_rfl) (by kernel_rfl) (fun _ _ _ h => h) (Or.inl ⟨by rfl, ?_⟩) hHeld ?_
  rotate_left
  · intro u hSu
    (go_simp) <;> (with_reducible rfl)
  change wpAnyH _ _ _ _ _ _ _ (Act.put _ (some 84) _) _
  simp only [Act.put, List.setIfInBounds_toArray, List.set_cons_zero, List.set_cons_succ]
  refine wpAnyH_take (i := 34) (v := ?_) rfl (by kernel_rfl) (by kernel_rfl) (by kernel_rfl) (fun _ _ _ h => h) (Or.inl ⟨by rfl, ?_⟩) hHeld ?_
  rotate_left
  · intro u hSu
    (go_simp) <;> (with_reducible rfl)
  change wpAnyH _ _ _ _ _ _ _ (Act.put _ (some 85) _) _
  simp only [Act.put, List.setIfInBounds_toArray, List.set_cons_zero, List.set_cons_succ]
  refine wpAnyH_take (i := 35) (v := ?_) rfl (by kernel_rfl) (by kernel_rfl) (by kernel_rfl) (fun _ _ _ h => h) (Or.inl ⟨by rfl, ?_⟩) hHeld ?_
  rotate_left
  · intro u hSu
    have f0 := (E.out.sp u hSu).c0
    (go_simp) <;> (with_reducible rfl)
  change wpAnyH _ _ _ _ _ _ _ (Act.put _ (some 86) _) _
  simp only [Act.put, List.setIfInBounds_toArray, List.set_cons_zero, List.set_cons_succ]
  refine wpAnyH_take (i := 36) (v := ?_) rfl (by kernel_rfl) (by kernel_rfl) (by kernel_rfl) (fun _ _ _ h => h) (Or.inl ⟨by rfl, ?_⟩) hHeld ?_
  rotate_left
  · intro u hSu
    (go_simp) <;> (with_reducible rfl)
  change wpAnyH _ _ _ _ _ _ _ (Act.put _ (some 87) _) _
  simp only [Act.put, List.setIfInBounds_toArray, List.set_cons_zero, List.set_cons_succ]
  refine wpAnyH_take (i := 37) (v := ?_) rfl (by kernel_rfl) (by kernel_rfl) (by kernel_rfl) (fun _ _ _ h => h) (Or.inl ⟨by rfl, ?_⟩) hHeld ?_
  rotate_left
  · intro u hSu
    (go_simp) <;> (with_reducible rfl)
  change wpAnyH _ _ _ _ _ _ _ (Act.put _ (some 88) _) _
  simp only [Act.put, List.setIfInBounds_toArray, List.set_cons_zero, List.set_cons_succ]
  refine wpAnyH_take (i := 38) (v := ?_) rfl (by kernel_rfl) (by kernel_rfl) (by kernel_rfl) (fun _ _ _ h => h) (Or.inl ⟨by rfl, ?_⟩) hHeld ?_
  rotate_left
  · intro u hSu
    (go_simp) <;> (with_reducible rfl)
  change wpAnyH _ _ _ _ _ _ _ (Act.put _ (some 89) _) _
  simp only [Act.put, List.setIfInBounds_toArray, List.set_cons_zero, List.set_cons_succ]
  refine wpAnyH_take (i := 39) (v := ?_) rfl (by kernel_rfl) (by kernel_rfl) (by kernel_rfl) (fun _ _ _ h => h) (Or.inl ⟨by rfl, ?_⟩) hHeld ?_
  rotate_left
  · intro u hSu
    (go_simp) <;> (with_reducible rfl)
  change wpAnyH _ _ _ _ _ _ _ (Act.put _ (some 90) _) _
  simp only [Act.put, List.setIfInBounds_toArray, List.set_cons_zero, List.set_cons_succ]
  refine wpAnyH_take (i := 40) (v := ?_) rfl (by kernel_rfl) (by kernel_rfl) (by kernel_rfl) (fun _ _ _ h => h) (Or.inl ⟨by rfl, ?_⟩) hHeld ?_
  rotate_left
  · intro u hSu
    (go_simp) <;> (with_reducible rfl)
  change wpAnyH _ _ _ _ _ _ _ (Act.put _ (some 91) _) _
  simp only [Act.put, List.setIfInBounds_toArray, List.set_cons_zero, List.set_cons_succ]
  refine wpAnyH_take (i := 41) (v := ?_) rfl (by kernel_rfl) (by kernel_rfl) (by kernel_rfl) (fun _ _ _ h => h) (Or.inl ⟨by rfl, ?_⟩) hHeld ?_
  rotate_left
  · intro u hSu
    (go_simp) <;> (with_reducible rfl)
  change wpAnyH _ _ _ _ _ _ _ (Act.put _ (some 92) _) _
  simp only [Act.put, List.setIfInBounds_toArray, List.set_cons_zero, List.set_cons_succ]
  refine wpAnyH_take (i := 42) (v := ?_) rfl (by kernel_rfl) (by kernel_rfl) (by kernel_rfl) (fun _ _ _ h => h) (Or.inl ⟨by rfl, ?_⟩) hHeld ?_
  rotate_left
  · intro u hSu
    have f0 := (E.out.sp u hSu).c0
    (go_simp) <;> (with_reducible rfl)
  change wpAnyH _ _ _ _ _ _ _ (Act.put _ (some 93) _) _
  simp only [Act.put, List.setIfInBounds_toArray, List.set_cons_zero, List.set_cons_succ]
  refine wpAnyH_take (i := 43) (v := ?_) rfl (by kernel_rfl) (by kernel_rfl) (by kernel_rfl) (fun _ _ _ h => h) (Or.inl ⟨by rfl, ?_⟩) hHeld ?_
  rotate_left
  · intro u hSu
    (go_simp) <;> (with_reducible rfl)
  change wpAnyH _ _ _ _ _ _ _ (Act.put _ (some 94) _) _
  simp only [Act.put, List.setIfInBounds_toArray, List.set_cons_zero, List.set_cons_succ]
  refine wpAnyH_take (i := 44) (v := ?_) rfl (by kernel_rfl) (by kernel_rfl) (by kernel_rfl) (fun _ _ _ h => h) (Or.inl ⟨by rfl, ?_⟩) hHeld ?_
  rotate_left
  · intro u hSu
    (go_simp) <;> (with_reducible rfl)
  change wpAnyH _ _ _ _ _ _ _ (Act.put _ (some 95) _) _
  simp only [Act.put, List.setIfInBounds_toArray, List.set_cons_zero, List.set_cons_succ]
  refine wpAnyH_take (i := 45) (v := kv ka) rfl (by kernel_rfl) (by kernel_rfl) (by kernel_rfl) (fun _ _ _ h => h) (yieldsIf_load_mid (by rfl) _ _ rfl _ _ rfl (ka.map (Value.int .u8)) _ (fun u hu => ((E.out.sp u hu).k0).range E.out.ya) Try.underlying28 rfl (info_keyl ka E.out.ya)) hHeld ?_
  change wpAnyH _ _ _ _ _ _ _ (Act.put _ (some 96) _) _
  simp only [Act.put, List.setIfInBounds_toArray, List.set_cons_zero, List.set_cons_succ]
  refine wpAnyH_ready (rs := [46]) (by kernel_rfl) (by simp) ?_
  refine AllReadyH.cons rfl (fun K hK => ?_) AllReadyH.nil
  go_simp
  go_at_call 9
  refine (E.out.cka _).mono ?_
  rintro e z1 ⟨rfl, hb⟩
  have HBz1 : Hid (Below V.heap.size V z1) := hHeld.trans (hb.mono hHeld.size)
  clear hb
  refine hK.out _ _ ?_ (fun hHeld2 => ?_)
  · exact HBz1.out
  clear hK K hHeld
  have hHeld := hHeld2
  clear hHeld2
  have he := E.out.he
  refine wpAnyH_take (i := 47) (v := ?_) rfl (by kernel_rfl) (by kernel_rfl) (by kernel_rfl) (fun _ _ _ h => h) (Or.inl ⟨by rfl, ?_⟩) hHeld ?_
  rotate_left
  · intro u hSu
    (go_simp) <;> (with_reducible rfl)
  change wpAnyH _ _ _ _ _ _ _ (Act.put _ (some 98) _) _
  simp only [Act.put, List.setIfInBounds_toArray, List.set_cons_zero, List.set_cons_succ]
  refine wpAnyH_take (i := 48) (v := ?_) rfl (by kernel_rfl) (by kernel_rfl) (by kernel_rfl) (fun _ _ _ h => h) (Or.inl ⟨by rfl, ?_⟩) hHeld ?_
  rotate_left
  · intro u hSu
    (go_simp) <;> (with_reducible rfl)
  change wpAnyH _ _ _ _ _ _ _ (Act.put _ (some 99) _) _
  simp only [Act.put, List.setIfInBounds_toArray, List.set_cons_zero, List.set_cons_succ]
  refine wpAnyH_take (i := 49) (v := ?_) rfl (by kernel_rfl) (by kernel_rfl) (by kernel_rfl) (fun _ _ _ h => h) (Or.inl ⟨by rfl, ?_⟩) hHeld ?_
  rotate_left
  · intro u hSu
    (go_simp) <;> (with_reducible rfl)
  change wpAnyH _ _ _ _ _ _ _ (Act.put _ (some 100) _) _
  simp only [Act.put, List.setIfInBounds_toArray, List.set_cons_zero, List.set_cons_succ]
  refine wpAnyH_take (i := 50) (v := ?_) rfl (by kernel_rfl) (by kernel_rfl) (by kernel_rfl) (fun _ _ _ h => h) (Or.inl ⟨by rfl, ?_⟩) hHeld ?_
  rotate_left
  · intro u hSu
    (go_simp) <;> (with_reducible rfl)
  change wpAnyH _ _ _ _ _ _ _ (Act.put _ (some 101) _) _
  simp only [Act.put, List.setIfInBounds_toArray, List.set_cons_zero, List.set_cons_succ]
  refine wpAnyH_take (i := 51) (v := ?_) rfl (by kernel_rfl) (by kernel_rfl) (by kernel_rfl) (fun _ _ _ h => h) (Or.inl ⟨by rfl, ?_⟩) hHeld ?_
  rotate_left
  · intro u hSu
    (go_simp) <;> (with_reducible rfl)
  change wpAnyH _ _ _ _ _ _ _ (Act.put _ (some 102) _) _
  simp only [Act.put, List.setIfInBounds_toArray, List.set_cons_zero, List.set_cons_succ]
  refine wpAnyH_take (i := 52) (v := ?_) rfl (by kernel_rfl) (by kernel_rfl) (by kernel_rfl) (fun _ _ _ h => h) (Or.inl ⟨by rfl, ?_⟩) hHeld ?_
  rotate_left
  · intro u hSu
    have f1 := (E.out.sp u hSu).c1
    (go_simp) <;> (with_reducible rfl)
  change wpAnyH _ _ _ _ _ _ _ (Act.put _ (some 103) _) _
  simp only [Act.put, List.setIfInBounds_toArray, List.set_cons_zero, List.set_cons_succ]
  refine wpAnyH_take (i := 53) (v := ?_) rfl (by kernel_rfl) (by kernel_rfl) (by kernel_rfl) (fun _ _ _ h => h) (Or.inl ⟨by rfl, ?_⟩) hHeld ?_
  rotate_left
  · intro u hSu
    (go_simp) <;> (with_reducible rfl)
  change wpAnyH _ _ _ _ _ _ _ (Act.put _ (some 104) _) _
  simp only [Act.put, List.setIfInBounds_toArray, List.set_cons_zero, List.set_cons_succ]
  refine wpAnyH_take (i := 54) (v := ?_) rfl (by kernel_rfl) (by kernel_rfl) (by kernel_rfl) (fun _ _ _ h => h) (Or.inl ⟨by rfl, ?_⟩) hHeld ?_
  rotate_left
  · intro u hSu
    (go_simp) <;> (with_reducible rfl)
  change wpAnyH _ _ _ _ _ _ _ (Act.put _ (some 105) _) _
  simp only [Act.put, List.setIfInBounds_toArray, List.set_cons_zero, List.set_cons_succ]
  refine wpAnyH_take (i := 55) (v := ?_) rfl (by kernel_rfl) (by kernel_rfl) (by kernel_rfl) (fun _ _ _ h => h) (Or.inl ⟨by rfl, ?_⟩) hHeld ?_
  rotate_left
  · intro u hSu
    (go_simp) <;> (with_reducible rfl)
  change wpAnyH _ _ _ _ _ _ _ (Act.put _ (some 106) _) _
  simp only [Act.put, List.setIfInBounds_toArray, List.set_cons_zero, List.set_cons_succ]
  refine wpAnyH_take (i := 56) (v := ?_) rfl (by kernel_rfl) (by kernel_rfl) (by kernel_rfl) (fun _ _ _ h => h) (Or.inl ⟨by rfl, ?_⟩) hHeld ?_
  rotate_left
  · intro u hSu
    (go_simp) <;> (with_reducible rfl)
  change wpAnyH _ _ _ _ _ _ _ (Act.put _ (some 107) _) _
  simp only [Act.put, List.setIfInBounds_toArray, List.set_cons_zero, List.set_cons_succ]
  clear he
  exact known_st3 (by kernel_rfl) E hQ _ (by kernel_rfl) _ hHeld
set_option maxRecDepth 16000 in
set_option maxHeartbeats 8000000 in
theorem known_st1 {OPS : Array Oper} (hO : opsOfR ((Try.f3.body.bind (findRegR 11)).getD .skip) = OPS) {V : World} {q wb gs b o lc ld : Nat} {lb : Option Addr} {ka kg kh : List Int} (E : Hid (EnvK V q wb gs b o lc lb ld ka kg kh)) {Q : Exit → Act → World → Prop} (hQ : ∀ {y1 y2 y3 y4 y5 y6 y8 y11 y12 y13 y14 y15 y16 y17 y18 y19 y20 y21 y22 y23 y24 y25 y26 y27 y28 y29 y30 y31 y32 y33 y34 y35 y36 y37 y38 y39 y40 y41 y42 y43 y44 y45 y46 y47 y48 y49 y50 y51 y52 y53 y54 y55 y56 y57 y58 y59 y60 y61 y62 y63 y64 y65 y66 y67 y68 y69 y70 y71 y72 y73 y74 y75 y76 y77 y78 y79 y80 y81 y82 y83 y84 y85 y86 y87 y88 y89 y90 y91 y92 y93 y94 y95 y96 y97 y98 y99 y100 y101 y102 y103 y104 y105 y106 y107 y108 y109 y110 y111 y112 y113 y114 y115 y116 y117 y118 y119 y120 y121 y122 y123 y124 y125 y126 y127 y128 y129 y130 y131 y132 y133 y134 y135 y136 y137 y138 y139 y140 y141 y142 y143 y144 y145 y146 : Value} (u : World), Below V.heap.size V u → Q .normal ⟨#[.bool true, y1, y2, y3, y4, y5, y6, .pointer (some ⟨q, 0, none⟩), y8, .slice (some ⟨wb, 0, none⟩) 4 4, .slice (some ⟨gs, 0, none⟩) 3 3, y11, y12, y13, y14, y15, y16, y17, y18, y19, y20, y21, y22, y23, y24, y25, y26, y27, y28, y29, y30, y31, y32, y33, y34, y35, y36, y37, y38, y39, y40, y41, y42, y43, y44, y45, y46, y47, y48, y49, y50, y51, y52, y53, y54, y55, y56, y57, y58, y59, y60, y61, y62, y63, y64, y65, y66, y67, y68, y69, y70, y71, y72, y73, y74, y75, y76, y77, y78, y79, y80, y81, y82, y83, y84, y85, y86, y87, y88, y89, y90, y91, y92, y93, y94, y95, y96, y97, y98, y99, y100, y101, y102, y103, y104, y105, y106, y107, y108, y109, y110, y111, y112, y113, y114, y115, y116, y117, y118, y119, y120, y121, y122, y123, y124, y125, y126, y127, y128, y129, y130, y131, y132, y133, y134, y135, y136, y137, y138, y139, y140, y141, y142, y143, y144, y145, y146], []⟩ u) {x0 x1 x2 x3 x4 x5 x6 x8 x11 x12 x13 x14 x15 x16 x17 x18 x19 x20 x21 x22 x23 x24 x25 x26 x27 x28 x29 x30 x31 x32 x33 x34 x35 x36 x37 x38 x39 x40 x41 x42 x43 x44 x45 x46 x47 x48 x49 x50 x51 x52 x53 x54 x55 x56 x57 x58 x59 x60 x61 x62 x63 x64 x65 x66 x67 x68 x69 x70 x72 x73 x74 x75 x76 x77 x78 x79 x80 x81 x82 x83 x84 x85 x86 x87 x88 x89 x90 x91 x92 x93 x94 x95 x96 x97 x98 x99 x100 x101 x102 x103 x104 x105 x106 x107 x108 x109 x110 x111 x112 x113 x114 x115 x116 x117 x118 x119 x120 x121 x122 x123 x124 x125 x126 x127 x128 x129 x130 x131 x132 x133 x134 x135 x136 x137 x138 x139 x140 x141 x142 x143 x144 x145 x146 : Value} (l : Array Bool) (hl : l = Array.replicate 21 true ++ Array.replicate 76 false) (u0 : World) (hHeld : Below V.heap.size V u0) :
    wpAnyH Try.prog .any OPS (NoPanic Q) (fun u => Below V.heap.size V u) 76 l ⟨#[x0, x1, x2, x3, x4, x5, x6, .pointer (some ⟨q, 0, none⟩), x8, .slice (some ⟨wb, 0, none⟩) 4 4, .slice (some ⟨gs, 0, none⟩) 3 3, x11, x12, x13, x14, x15, x16, x17, x18, x19, x20, x21, x22, x23, x24, x25, x26, x27, x28, x29, x30, x31, x32, x33, x34, x35, x36, x37, x38, x39, x40, x41, x42, x43, x44, x45, x46, x47, x48, x49, x50, x51, x52, x53, x54, x55, x56, x57, x58, x59, x60, x61, x62, x63, x64, x65, x66, x67, x68, x69, x70, .bool true, x72, x73, x74, x75, x76, x77, x78, x79, x80, x81, x82, x83, x84, x85, x86, x87, x88, x89, x90, x91, x92, x93, x94, x95, x96, x97, x98, x99, x100, x101, x102, x103, x104, x105, x106, x107, x108, x109, x110, x111, x112, x113, x114, x115, x116, x117, x118, x119, x120, x121, x122, x123, x124, x125, x126, x127, x128, x129, x130, x131, x132, x133, x134, x135, x136, x137, x138, x139, x140, x141, x142, x143, x144, x145, x146], []⟩ u0 := by
  subst hl
  subst hO
  conv => arg 3; whnf
  refine wpAnyH_take (i := 21) (v := ?_) rfl (by kernel_rfl) (by kernel_rfl) (by kernel_rfl) (fun _ _ _ h => h) (Or.inl ⟨by rfl, ?_⟩) hHeld ?_
  rotate_left
  · intro u hSu
    (go_simp) <;> (with_reducible rfl)
  change wpAnyH _ _ _ _ _ _ _ (Act.put _ (some 72) _) _
  simp only [Act.put, List.setIfInBounds_toArray, List.set_cons_zero, List.set_cons_succ]
  refine wpAnyH_take (i := 22) (v := ?_) rfl (by kernel_rfl) (by kernel_rfl) (by kernel_rfl) (fun _ _ _ h => h) (Or.inl ⟨by rfl, ?_⟩) hHeld ?_
  rotate_left
  · intro u hSu
    (go_simp) <;> (with_reducible rfl)
  change wpAnyH _ _ _ _ _ _ _ (Act.put _ (some 73) _) _
  simp only [Act.put, List.setIfInBounds_toArray, List.set_cons_zero, List.set_cons_succ]
  refine wpAnyH_ready (rs := [23, 24]) (by kernel_rfl) (by simp) ?_
  refine AllReadyH.cons rfl (fun K hK => ?_) ?_
  · go_simp
    go_at_call 13
    refine (E.out.cpa _ hHeld).mono ?_
    rintro e z52 ⟨raz52, rcz52, rfl, hn, hb⟩
    have HBz52 : Hid (Below V.heap.size V z52) := hHeld.trans (hb.mono hHeld.size)
    have NAz52 : Hid (NumsR z52 raz52 [0, 2]) := hn.2
    have hrz52 := hn.1
    clear hn
    clear hb
    refine hK.out _ _ ?_ (fun hHeld2 => ?_)
    · exact HBz52.out
    clear hK K hHeld
    have hHeld := hHeld2
    clear hHeld2
    refine wpAnyH_ready (rs := [24]) (by kernel_rfl) (by simp) ?_
    refine AllReadyH.cons rfl (fun K hK => ?_) AllReadyH.nil
    go_simp
    have HBz53 : Hid (Below V.heap.size V (z52.alloc (.cells #[.int .i64 0, .int .i64 2] 3))) := hHeld.alloc hHeld.size _
    have NLz53 : Hid (NumsR (z52.alloc (.cells #[.int .i64 0, .int .i64 2] 3)) (some ⟨z52.heap.size, 0, none⟩) [0, 2]) := nums_madeR z52 [0, 2]
    have NAz53 : Hid (NumsR (z52.alloc (.cells #[.int .i64 0, .int .i64 2] 3)) raz52 [0, 2]) := NAz52.out.past ((Below.refl _ _).alloc (Nat.le_refl _) _)
    refine hK.out _ _ ?_ (fun hHeld2 => ?_)
    · exact HBz53.out
    clear hK K hHeld
    have hHeld := hHeld2
    clear hHeld2
    generalize hwz53 : z52.alloc (.cells #[.int .i64 0, .int .i64 2] 3) = z53 at hHeld HBz53 NLz53 NAz53 ⊢
    clear hwz53
    refine wpAnyH_ready (rs := [25]) (by kernel_rfl) (by simp) ?_
    refine AllReadyH.cons rfl (fun K hK => ?_) AllReadyH.nil
    go_simp
    go_at_call 12
    refine (rsame17_any raz52 (some ⟨z52.heap.size, 0, none⟩) 2 rcz52 2 [0, 2] _ rfl hrz52 (Nat.le_refl _) (by omega) NAz53.out NLz53.out).mono ?_
    rintro e z54 ⟨rfl, hb⟩
    have HBz54 : Hid (Below V.heap.size V z54) := hHeld.trans (hb.mono hHeld.size)
    clear hb
    refine hK.out _ _ ?_ (fun hHeld2 => ?_)
    · exact HBz54.out
    clear hK K hHeld
    have hHeld := hHeld2
    clear hHeld2
    refine wpAnyH_take (i := 26) (v := ?_) rfl (by kernel_rfl) (by kernel_rfl) (by kernel_rfl) (fun _ _ _ h => h) (Or.inl ⟨by rfl, ?_⟩) hHeld ?_
    rotate_left
    · intro u hSu
      (go_simp) <;> (with_reducible rfl)
    change wpAnyH _ _ _ _ _ _ _ (Act.put _ (some 77) _) _
    simp only [Act.put, List.setIfInBounds_toArray, List.set_cons_zero, List.set_cons_succ]
    refine wpAnyH_take (i := 27) (v := ?_) rfl (by kernel_rfl) (by kernel_rfl) (by kernel_rfl) (fun _ _ _ h => h) (Or.inl ⟨by rfl, ?_⟩) hHeld ?_
    rotate_left
    · intro u hSu
      (go_simp) <;> (with_reducible rfl)
    change wpAnyH _ _ _ _ _ _ _ (Act.put _ (some 78) _) _
    simp only [Act.put, List.setIfInBounds_toArray, List.set_cons_zero, List.set_cons_succ]
    exact known_st2 (by kernel_rfl) E hQ _ (by kernel_rfl) _ hHeld
  refine AllReadyH.cons rfl (fun K hK => ?_) AllReadyH.nil
  go_simp
  have HBz55 : Hid (Below V.heap.size V (u0.alloc (.cells #[.int .i64 0, .int .i64 2] 3))) := hHeld.alloc hHeld.size _
  have NLz55 : Hid (NumsR (u0.alloc (.cells #[.int .i64 0, .int .i64 2] 3)) (some ⟨u0.heap.size, 0, none⟩) [0, 2]) := nums_madeR u0 [0, 2]
  refine hK.out _ _ ?_ (fun hHeld2 => ?_)
  · exact HBz55.out
  clear hK K hHeld
  have hHeld := hHeld2
  clear hHeld2
  generalize hwz55 : u0.alloc (.cells #[.int .i64 0, .int .i64 2] 3) = z55 at hHeld HBz55 NLz55  ⊢
  clear hwz55
  refine wpAnyH_ready (rs := [23]) (by kernel_rfl) (by simp) ?_
  refine AllReadyH.cons rfl (fun K hK => ?_) AllReadyH.nil
  go_simp
  go_at_call 13
  refine (E.out.cpa _ hHeld).mono ?_
  rintro e z56 ⟨raz56, rcz56, rfl, hn, hb⟩
  have HBz56 : Hid (Below V.heap.size V z56) := hHeld.trans (hb.mono hHeld.size)
  have NLz56 : Hid (NumsR z56 (some ⟨u0.heap.size, 0, none⟩) [0, 2]) := NLz55.out.past hb
  have NAz56 : Hid (NumsR z56 raz56 [0, 2]) := hn.2
  have hrz56 := hn.1
  clear hn
  clear hb
  refine hK.out _ _ ?_ (fun hHeld2 => ?_)
  · exact HBz56.out
  clear hK K hHeld
  have hHeld := hHeld2
  clear hHeld2
  refine wpAnyH_ready (rs := [25]) (by kernel_rfl) (by simp) ?_
  refine AllReadyH.cons rfl (fun K hK => ?_) AllReadyH.nil
  go_simp
  go_at_call 12
  refine (rsame17_any raz56 (some ⟨u0.heap.size, 0, none⟩) 2 rcz56 2 [0, 2] _ rfl hrz56 (Nat.le_refl _) (by omega) NAz56.out NLz56.out).mono ?_
  rintro e z57 ⟨rfl, hb⟩
  have HBz57 : Hid (Below V.heap.size V z57) := hHeld.trans (hb.mono hHeld.size)
  clear hb
  refine hK.out _ _ ?_ (fun hHeld2 => ?_)
  · exact HBz57.out
  clear hK K hHeld
  have hHeld := hHeld2
  clear hHeld2
  refine wpAnyH_take (i := 26) (v := ?_) rfl (by kernel_rfl) (by kernel_rfl) (by kernel_rfl) (fun _ _ _ h => h) (Or.inl ⟨by rfl, ?_⟩) hHeld ?_
  rotate_left
  · intro u hSu
    (go_simp) <;> (with_reducible rfl)
  change wpAnyH _ _ _ _ _ _ _ (Act.put _ (some 77) _) _
  simp only [Act.put, List.setIfInBounds_toArray, List.set_cons_zero, List.set_cons_succ]
  refine wpAnyH_take (i := 27) (v := ?_) rfl (by kernel_rfl) (by kernel_rfl) (by kernel_rfl) (fun _ _ _ h => h) (Or.inl ⟨by rfl, ?_⟩) hHeld ?_
  rotate_left
  · intro u hSu
    (go_simp) <;> (with_reducible rfl)
  change wpAnyH _ _ _ _ _ _ _ (Act.put _ (some 78) _) _
  simp only [Act.put, List.setIfInBounds_toArray, List.set_cons_zero, List.set_cons_succ]
  exact known_st2 (by kernel_rfl) E hQ _ (by kernel_rfl) _ hHeld
set_option maxRecDepth 16000 in
set_option maxHeartbeats 8000000 in
theorem known_st0 {OPS : Array Oper} (hO : opsOfR ((Try.f3.body.bind (findRegR 11)).getD .skip) = OPS) {V : World} {q wb gs b o lc ld : Nat} {lb : Option Addr} {ka kg kh : List Int} (E : Hid (EnvK V q wb gs b o lc lb ld ka kg kh)) {Q : Exit → Act → World → Prop} (hQ : ∀ {y1 y2 y3 y4 y5 y6 y8 y11 y12 y13 y14 y15 y16 y17 y18 y19 y20 y21 y22 y23 y24 y25 y26 y27 y28 y29 y30 y31 y32 y33 y34 y35 y36 y37 y38 y39 y40 y41 y42 y43 y44 y45 y46 y47 y48 y49 y50 y51 y52 y53 y54 y55 y56 y57 y58 y59 y60 y61 y62 y63 y64 y65 y66 y67 y68 y69 y70 y71 y72 y73 y74 y75 y76 y77 y78 y79 y80 y81 y82 y83 y84 y85 y86 y87 y88 y89 y90 y91 y92 y93 y94 y95 y96 y97 y98 y99 y100 y101 y102 y103 y104 y105 y106 y107 y108 y109 y110 y111 y112 y113 y114 y115 y116 y117 y118 y119 y120 y121 y122 y123 y124 y125 y126 y127 y128 y129 y130 y131 y132 y133 y134 y135 y136 y137 y138 y139 y140 y141 y142 y143 y144 y145 y146 : Value} (u : World), Below V.heap.size V u → Q .normal ⟨#[.bool true, y1, y2, y3, y4, y5, y6, .pointer (some ⟨q, 0, none⟩), y8, .slice (some ⟨wb, 0, none⟩) 4 4, .slice (some ⟨gs, 0, none⟩) 3 3, y11, y12, y13, y14, y15, y16, y17, y18, y19, y20, y21, y22, y23, y24, y25, y26, y27, y28, y29, y30, y31, y32, y33, y34, y35, y36, y37, y38, y39, y40, y41, y42, y43, y44, y45, y46, y47, y48, y49, y50, y51, y52, y53, y54, y55, y56, y57, y58, y59, y60, y61, y62, y63, y64, y65, y66, y67, y68, y69, y70, y71, y72, y73, y74, y75, y76, y77, y78, y79, y80, y81, y82, y83, y84, y85, y86, y87, y88, y89, y90, y91, y92, y93, y94, y95, y96, y97, y98, y99, y100, y101, y102, y103, y104, y105, y106, y107, y108, y109, y110, y111, y112, y113, y114, y115, y116, y117, y118, y119, y120, y121, y122, y123, y124, y125, y126, y127, y128, y129, y130, y131, y132, y133, y134, y135, y136, y137, y138, y139, y140, y141, y142, y143, y144, y145, y146], []⟩ u) {x0 x1 x3 x5 x11 x12 x13 x14 x15 x16 x17 x18 x19 x20 x21 x22 x23 x24 x25 x26 x27 x28 x29 x30 x31 x32 x33 x34 x35 x36 x37 x38 x39 x40 x41 x42 x43 x44 x45 x46 x47 x48 x49 x50 x51 x52 x53 x54 x55 x56 x57 x58 x59 x60 x61 x62 x63 x64 x65 x66 x67 x68 x69 x70 x71 x72 x73 x74 x75 x76 x77 x78 x79 x80 x81 x82 x83 x84 x85 x86 x87 x88 x89 x90 x91 x92 x93 x94 x95 x96 x97 x98 x99 x100 x101 x102 x103 x104 x105 x106 x107 x108 x109 x110 x111 x112 x113 x114 x115 x116 x117 x118 x119 x120 x121 x122 x123 x124 x125 x126 x127 x128 x129 x130 x131 x132 x133 x134 x135 x136 x137 x138 x139 x140 x141 x142 x143 x144 x145 x146 : Value} (l : Array Bool) (hl : l = Array.replicate 0 true ++ Array.replicate 97 false) (u0 : World) (hHeld : Below V.heap.size V u0) :
    wpAnyH Try.prog .any OPS (NoPanic Q) (fun u => Below V.heap.size V u) 97 l ⟨#[x0, x1, .int .i64 1, x3, .int .i64 1, x5, .int .i64 1, .pointer (some ⟨q, 0, none⟩), .int .i64 0, .slice (some ⟨wb, 0, none⟩) 4 4, .slice (some ⟨gs, 0, none⟩) 3 3, x11, x12, x13, x14, x15, x16, x17, x18, x19, x20, x21, x22, x23, x24, x25, x26, x27, x28, x29, x30, x31, x32, x33, x34, x35, x36, x37, x38, x39, x40, x41, x42, x43, x44, x45, x46, x47, x48, x49, x50, x51, x52, x53, x54, x55, x56, x57, x58, x59, x60, x61, x62, x63, x64, x65, x66, x67, x68, x69, x70, x71, x72, x73, x74, x75, x76, x77, x78, x79, x80, x81, x82, x83, x84, x85, x86, x87, x88, x89, x90, x91, x92, x93, x94, x95, x96, x97, x98, x99, x100, x101, x102, x103, x104, x105, x106, x107, x108, x109, x110, x111, x112, x113, x114, x115, x116, x117, x118, x119, x120, x121, x122, x123, x124, x125, x126, x127, x128, x129, x130, x131, x132, x133, x134, x135, x136, x137, x138, x139, x140, x141, x142, x143, x144, x145, x146], []⟩ u0 := by
  subst hl
  subst hO
  conv => arg 3; whnf
  refine wpAnyH_take (i := 0) (v := ?_) rfl (by kernel_rfl) (by kernel_rfl) (by kernel_rfl) (fun _ _ _ h => h) (Or.inl ⟨by rfl, ?_⟩) hHeld ?_
  rotate_left
  · intro u hSu
    (go_simp) <;> (with_reducible rfl)
  change wpAnyH _ _ _ _ _ _ _ (Act.put _ (some 51) _) _
  simp only [Act.put, List.setIfInBounds_toArray, List.set_cons_zero, List.set_cons_succ]
  refine wpAnyH_take (i := 1) (v := ?_) rfl (by kernel_rfl) (by kernel_rfl) (by kernel_rfl) (fun _ _ _ h => h) (Or.inl ⟨by rfl, ?_⟩) hHeld ?_
  rotate_left
  · intro u hSu
    (go_simp) <;> (with_reducible rfl)
  change wpAnyH _ _ _ _ _ _ _ (Act.put _ (some 52) _) _
  simp only [Act.put, List.setIfInBounds_toArray, List.set_cons_zero, List.set_cons_succ]
  refine wpAnyH_take (i := 2) (v := ?_) rfl (by kernel_rfl) (by kernel_rfl) (by kernel_rfl) (fun _ _ _ h => h) (Or.inl ⟨by rfl, ?_⟩) hHeld ?_
  rotate_left
  · intro u hSu
    (go_simp) <;> (with_reducible rfl)
  change wpAnyH _ _ _ _ _ _ _ (Act.put _ (some 53) _) _
  simp only [Act.put, List.setIfInBounds_toArray, List.set_cons_zero, List.set_cons_succ]
  refine wpAnyH_take (i := 3) (v := ?_) rfl (by kernel_rfl) (by kernel_rfl) (by kernel_rfl) (fun _ _ _ h => h) (Or.inl ⟨by rfl, ?_⟩) hHeld ?_
  rotate_left
  · intro u hSu
    (go_simp) <;> (with_reducible rfl)
  change wpAnyH _ _ _ _ _ _ _ (Act.put _ (some 54) _) _
  simp only [Act.put, List.setIfInBounds_toArray, List.set_cons_zero, List.set_cons_succ]
  refine wpAnyH_take (i := 4) (v := ?_) rfl (by kernel_rfl) (by kernel_rfl) (by kernel_rfl) (fun _ _ _ h => h) (Or.inl ⟨by rfl, ?_⟩) hHeld ?_
  rotate_left
  · intro u hSu
    (go_simp) <;> (with_reducible rfl)
  change wpAnyH _ _ _ _ _ _ _ (Act.put _ (some 55) _) _
  simp only [Act.put, List.setIfInBounds_toArray, List.set_cons_zero, List.set_cons_succ]
  refine wpAnyH_take (i := 5) (v := ?_) rfl (by kernel_rfl) (by kernel_rfl) (by kernel_rfl) (fun _ _ _ h => h) (Or.inl ⟨by rfl, ?_⟩) hHeld ?_
  rotate_left
  · intro u hSu
    (go_simp) <;> (with_reducible rfl)
  change wpAnyH _ _ _ _ _ _ _ (Act.put _ (some 56) _) _
  simp only [Act.put, List.setIfInBounds_toArray, List.set_cons_zero, List.set_cons_succ]
  refine wpAnyH_take (i := 6) (v := ?_) rfl (by kernel_rfl) (by kernel_rfl) (by kernel_rfl) (fun _ _ _ h => h) (Or.inl ⟨by rfl, ?_⟩) hHeld ?_
  rotate_left
  · intro u hSu
    (go_simp) <;> (with_reducible rfl)
  change wpAnyH _ _ _ _ _ _ _ (Act.put _ (some 57) _) _
  simp only [Act.put, List.setIfInBounds_toArray, List.set_cons_zero, List.set_cons_succ]
  refine wpAnyH_take (i := 7) (v := ?_) rfl (by kernel_rfl) (by kernel_rfl) (by kernel_rfl) (fun _ _ _ h => h) (Or.inl ⟨by rfl, ?_⟩) hHeld ?_
  rotate_left
  · intro u hSu
    (go_simp) <;> (with_reducible rfl)
  change wpAnyH _ _ _ _ _ _ _ (Act.put _ (some 58) _) _
  simp only [Act.put, List.setIfInBounds_toArray, List.set_cons_zero, List.set_cons_succ]
  refine wpAnyH_take (i := 8) (v := ?_) rfl (by kernel_rfl) (by kernel_rfl) (by kernel_rfl) (fun _ _ _ h => h) (Or.inl ⟨by rfl, ?_⟩) hHeld ?_
  rotate_left
  · intro u hSu
    (go_simp) <;> (with_reducible rfl)
  change wpAnyH _ _ _ _ _ _ _ (Act.put _ (some 59) _) _
  simp only [Act.put, List.setIfInBounds_toArray, List.set_cons_zero, List.set_cons_succ]
  refine wpAnyH_take (i := 9) (v := ?_) rfl (by kernel_rfl) (by kernel_rfl) (by kernel_rfl) (fun _ _ _ h => h) (Or.inl ⟨by rfl, ?_⟩) hHeld ?_
  rotate_left
  · intro u hSu
    (go_simp) <;> (with_reducible rfl)
  change wpAnyH _ _ _ _ _ _ _ (Act.put _ (some 60) _) _
  simp only [Act.put, List.setIfInBounds_toArray, List.set_cons_zero, List.set_cons_succ]
  refine wpAnyH_take (i := 10) (v := ?_) rfl (by kernel_rfl) (by kernel_rfl) (by kernel_rfl) (fun _ _ _ h => h) (Or.inl ⟨by rfl, ?_⟩) hHeld ?_
  rotate_left
  · intro u hSu
    (go_simp) <;> (with_reducible rfl)
  change wpAnyH _ _ _ _ _ _ _ (Act.put _ (some 61) _) _
  simp only [Act.put, List.setIfInBounds_toArray, List.set_cons_zero, List.set_cons_succ]
  refine wpAnyH_take (i := 11) (v := ?_) rfl (by kernel_rfl) (by kernel_rfl) (by kernel_rfl) (fun _ _ _ h => h) (Or.inl ⟨by rfl, ?_⟩) hHeld ?_
  rotate_left
  · intro u hSu
    (go_simp) <;> (with_reducible rfl)
  change wpAnyH _ _ _ _ _ _ _ (Act.put _ (some 62) _) _
  simp only [Act.put, List.setIfInBounds_toArray, List.set_cons_zero, List.set_cons_succ]
  refine wpAnyH_take (i := 12) (v := ?_) rfl (by kernel_rfl) (by kernel_rfl) (by kernel_rfl) (fun _ _ _ h => h) (Or.inl ⟨by rfl, ?_⟩) hHeld ?_
  rotate_left
  · intro u hSu
    (go_simp) <;> (with_reducible rfl)
  change wpAnyH _ _ _ _ _ _ _ (Act.put _ (some 63) _) _
  simp only [Act.put, List.setIfInBounds_toArray, List.set_cons_zero, List.set_cons_succ]
  refine wpAnyH_take (i := 13) (v := ?_) rfl (by kernel_rfl) (by kernel_rfl) (by kernel_rfl) (fun _ _ _ h => h) (Or.inl ⟨by rfl, ?_⟩) hHeld ?_
  rotate_left
  · intro u hSu
    (go_simp) <;> (with_reducible rfl)
  change wpAnyH _ _ _ _ _ _ _ (Act.put _ (some 64) _) _
  simp only [Act.put, List.setIfInBounds_toArray, List.set_cons_zero, List.set_cons_succ]
  refine wpAnyH_take (i := 14) (v := ?_) rfl (by kernel_rfl) (by kernel_rfl) (by kernel_rfl) (fun _ _ _ h => h) (Or.inl ⟨by rfl, ?_⟩) hHeld ?_
  rotate_left
  · intro u hSu
    (go_simp) <;> (with_reducible rfl)
  change wpAnyH _ _ _ _ _ _ _ (Act.put _ (some 65) _) _
  simp only [Act.put, List.setIfInBounds_toArray, List.set_cons_zero, List.set_cons_succ]
  refine wpAnyH_take (i := 15) (v := ?_) rfl (by kernel_rfl) (by kernel_rfl) (by kernel_rfl) (fun _ _ _ h => h) (Or.inl ⟨by rfl, ?_⟩) hHeld ?_
  rotate_left
  · intro u hSu
    (go_simp) <;> (with_reducible rfl)
  change wpAnyH _ _ _ _ _ _ _ (Act.put _ (some 66) _) _
  simp only [Act.put, List.setIfInBounds_toArray, List.set_cons_zero, List.set_cons_succ]
  refine wpAnyH_take (i := 16) (v := kv zeroK) rfl (by kernel_rfl) (by kernel_rfl) (by kernel_rfl) (fun _ _ _ h => h) (yieldsIf_build_k0R (by rfl) rfl) hHeld ?_
  change wpAnyH _ _ _ _ _ _ _ (Act.put _ (some 67) _) _
  simp only [Act.put, List.setIfInBounds_toArray, List.set_cons_zero, List.set_cons_succ]
  refine wpAnyH_ready (rs := [17]) (by kernel_rfl) (by simp) ?_
  refine AllReadyH.cons rfl (fun K hK => ?_) AllReadyH.nil
  go_simp
  go_at_call 11
  refine (E.out.cof _ hHeld).mono ?_
  rintro e z1 ⟨rfl, hb⟩
  have HBz1 : Hid (Below V.heap.size V z1) := hHeld.trans (hb.mono hHeld.size)
  clear hb
  refine hK.out _ _ ?_ (fun hHeld2 => ?_)
  · exact HBz1.out
  clear hK K hHeld
  have hHeld := hHeld2
  clear hHeld2
  refine wpAnyH_take (i := 18) (v := ?_) rfl (by kernel_rfl) (by kernel_rfl) (by kernel_rfl) (fun _ _ _ h => h) (Or.inl ⟨by rfl, ?_⟩) hHeld ?_
  rotate_left
  · intro u hSu
    (go_simp) <;> (with_reducible rfl)
  change wpAnyH _ _ _ _ _ _ _ (Act.put _ (some 69) _) _
  simp only [Act.put, List.setIfInBounds_toArray, List.set_cons_zero, List.set_cons_succ]
  refine wpAnyH_take (i := 19) (v := ?_) rfl (by kernel_rfl) (by kernel_rfl) (by kernel_rfl) (fun _ _ _ h => h) (Or.inl ⟨by rfl, ?_⟩) hHeld ?_
  rotate_left
  · intro u hSu
    (go_simp) <;> (with_reducible rfl)
  change wpAnyH _ _ _ _ _ _ _ (Act.put _ (some 70) _) _
  simp only [Act.put, List.setIfInBounds_toArray, List.set_cons_zero, List.set_cons_succ]
  refine wpAnyH_take (i := 20) (v := ?_) rfl (by kernel_rfl) (by kernel_rfl) (by kernel_rfl) (fun _ _ _ h => h) (Or.inl ⟨by rfl, ?_⟩) hHeld ?_
  rotate_left
  · intro u hSu
    (go_simp) <;> (with_reducible rfl)
  change wpAnyH _ _ _ _ _ _ _ (Act.put _ (some 71) _) _
  simp only [Act.put, List.setIfInBounds_toArray, List.set_cons_zero, List.set_cons_succ]
  exact known_st1 (by kernel_rfl) E hQ _ (by kernel_rfl) _ hHeld
set_option maxRecDepth 16000 in
set_option maxHeartbeats 8000000 in
theorem known_reg {V : World} {q wb gs b o lc ld : Nat} {lb : Option Addr} {ka kg kh : List Int} (E : Hid (EnvK V q wb gs b o lc lb ld ka kg kh)) {Q : Exit → Act → World → Prop} (hQ : ∀ {y1 y2 y3 y4 y5 y6 y8 y11 y12 y13 y14 y15 y16 y17 y18 y19 y20 y21 y22 y23 y24 y25 y26 y27 y28 y29 y30 y31 y32 y33 y34 y35 y36 y37 y38 y39 y40 y41 y42 y43 y44 y45 y46 y47 y48 y49 y50 y51 y52 y53 y54 y55 y56 y57 y58 y59 y60 y61 y62 y63 y64 y65 y66 y67 y68 y69 y70 y71 y72 y73 y74 y75 y76 y77 y78 y79 y80 y81 y82 y83 y84 y85 y86 y87 y88 y89 y90 y91 y92 y93 y94 y95 y96 y97 y98 y99 y100 y101 y102 y103 y104 y105 y106 y107 y108 y109 y110 y111 y112 y113 y114 y115 y116 y117 y118 y119 y120 y121 y122 y123 y124 y125 y126 y127 y128 y129 y130 y131 y132 y133 y134 y135 y136 y137 y138 y139 y140 y141 y142 y143 y144 y145 y146 : Value} (u : World), Below V.heap.size V u → Q .normal ⟨#[.bool true, y1, y2, y3, y4, y5, y6, .pointer (some ⟨q, 0, none⟩), y8, .slice (some ⟨wb, 0, none⟩) 4 4, .slice (some ⟨gs, 0, none⟩) 3 3, y11, y12, y13, y14, y15, y16, y17, y18, y19, y20, y21, y22, y23, y24, y25, y26, y27, y28, y29, y30, y31, y32, y33, y34, y35, y36, y37, y38, y39, y40, y41, y42, y43, y44, y45, y46, y47, y48, y49, y50, y51, y52, y53, y54, y55, y56, y57, y58, y59, y60, y61, y62, y63, y64, y65, y66, y67, y68, y69, y70, y71, y72, y73, y74, y75, y76, y77, y78, y79, y80, y81, y82, y83, y84, y85, y86, y87, y88, y89, y90, y91, y92, y93, y94, y95, y96, y97, y98, y99, y100, y101, y102, y103, y104, y105, y106, y107, y108, y109, y110, y111, y112, y113, y114, y115, y116, y117, y118, y119, y120, y121, y122, y123, y124, y125, y126, y127, y128, y129, y130, y131, y132, y133, y134, y135, y136, y137, y138, y139, y140, y141, y142, y143, y144, y145, y146], []⟩ u) {x0 x1 x3 x5 x11 x12 x13 x14 x15 x16 x17 x18 x19 x20 x21 x22 x23 x24 x25 x26 x27 x28 x29 x30 x31 x32 x33 x34 x35 x36 x37 x38 x39 x40 x41 x42 x43 x44 x45 x46 x47 x48 x49 x50 x51 x52 x53 x54 x55 x56 x57 x58 x59 x60 x61 x62 x63 x64 x65 x66 x67 x68 x69 x70 x71 x72 x73 x74 x75 x76 x77 x78 x79 x80 x81 x82 x83 x84 x85 x86 x87 x88 x89 x90 x91 x92 x93 x94 x95 x96 x97 x98 x99 x100 x101 x102 x103 x104 x105 x106 x107 x108 x109 x110 x111 x112 x113 x114 x115 x116 x117 x118 x119 x120 x121 x122 x123 x124 x125 x126 x127 x128 x129 x130 x131 x132 x133 x134 x135 x136 x137 x138 x139 x140 x141 x142 x143 x144 x145 x146 : Value} : ((Try.f3.body.bind (findRegR 11)).getD .skip).wp Try.prog Q ⟨#[x0, x1, .int .i64 1, x3, .int .i64 1, x5, .int .i64 1, .pointer (some ⟨q, 0, none⟩), .int .i64 0, .slice (some ⟨wb, 0, none⟩) 4 4, .slice (some ⟨gs, 0, none⟩) 3 3, x11, x12, x13, x14, x15, x16, x17, x18, x19, x20, x21, x22, x23, x24, x25, x26, x27, x28, x29, x30, x31, x32, x33, x34, x35, x36, x37, x38, x39, x40, x41, x42, x43, x44, x45, x46, x47, x48, x49, x50, x51, x52, x53, x54, x55, x56, x57, x58, x59, x60, x61, x62, x63, x64, x65, x66, x67, x68, x69, x70, x71, x72, x73, x74, x75, x76, x77, x78, x79, x80, x81, x82, x83, x84, x85, x86, x87, x88, x89, x90, x91, x92, x93, x94, x95, x96, x97, x98, x99, x100, x101, x102, x103, x104, x105, x106, x107, x108, x109, x110, x111, x112, x113, x114, x115, x116, x117, x118, x119, x120, x121, x122, x123, x124, x125, x126, x127, x128, x129, x130, x131, x132, x133, x134, x135, x136, x137, x138, x139, x140, x141, x142, x143, x144, x145, x146], []⟩ V := by
  conv => arg 2; whnf
  refine wp_region_noPanic ?_
  refine wp_region_held_drew (S := fun u => Below V.heap.size V u) (by kernel_rfl) ?_ (fun hHeld => ?_)
  · exact (Below.refl _ _).drew
  exact known_st0 (by kernel_rfl) E hQ _ (by kernel_rfl) _ hHeld
end Go.Proofs.Ytdbgkbgodnknnaa
