/-
  FrameScans: any list of at most 400 bytes, and at most 12 frames of records of at most 200 bytes with any one byte changed and cut anywhere, are read as the document says; each frame is put as it says.
-/
import Derived.Test.YtcagodcmkjdahaaRows
import Derived.Test.YtcagodcmkjdahaaFrameAwake
import Derived.Test.YtcagodcmkjdahaaNested
import Derived.WalkKit
import Derived.ProofKit
import Derived.OpenShut
import Derived.ShutString
import Derived.ChangeOld
import Derived.Below
import Derived.Carry
namespace Go.Proofs.Ytcagodcmkjdahaa.frameScans
open Go.ChangeShapes Go.WideShapes Go.ChangeAt Go.RowKit
open Go.ChangeMaps (open_string shut_string)
set_option linter.unusedVariables false

theorem own : ownKnob Try.prog.godebug = none := by kernel_rfl
theorem laidOut : laidOutB Try.prog = true := by kernel_rfl
/-- A slice of integers that came in: nil, or a row of 'cap' cells, of which the first 'len' are its elements. -/
def IsRow (k : IntKind) (w : World) (a : Option Addr) (len cap : Nat) (zs : List Int) : Prop :=
  (a = none ∧ len = 0 ∧ cap = 0 ∧ zs = []) ∨
  ∃ x, a = some x ∧ len ≤ cap ∧ cap ≤ maxLen ∧ zs.length = cap ∧ (∀ i, i < zs.length → w.cell? (x.add i) = some (.int k (zs.getD i 0))) ∧ ∀ n ∈ zs, (Lit.int k n).wf = true

/-- The one operation of a region that can run only behind the region's call. -/
def opG (p : String) : Oper := { dst := some 66, op := Op.convert 23 9 (Operand.tmp 65), type := 9, pos := p, after := #[{ on := 11, ground := Ground.data }, { on := 2, ground := Ground.guard }], guard := some (2, false) }
theorem own_below {w w' : World} {base n : Nat} {v : Value} {xs : List Value} (h : w.ownsRow base 5 1 v n xs) (hb : Below w.heap.size w w') : w'.ownsRow base 5 1 v n xs := by
  refine ⟨h.1, h.2.imp id ?_⟩
  rintro ⟨g, cap, cur, h1, h2, h3, h4⟩
  exact ⟨g, cap, cur, h1, h2, by rw [hb.block g (heap_lt h3)]; exact h3, h4⟩
theorem scan_count (zs : List Int) : (scanN zs).1.length ≤ zs.length := by
  have key : ∀ n (zs : List Int), zs.length ≤ n → (scanN zs).1.length ≤ zs.length := by
    intro n
    induction n with
    | zero => intro zs h; have : zs = [] := List.eq_nil_of_length_eq_zero (by omega); subst this; simp [scan_nil]
    | succ n ih =>
      intro zs h
      by_cases h0 : zs = []
      · subst h0; simp [scan_nil]
      · cases ht : takeN zs with
        | none => rw [scan_none h0 ht]; simp
        | some r =>
          have hs := take_some ht
          rw [scan_some ht]
          have := ih (zs.drop (12 + r.length)) (by simp; omega)
          simp at this ⊢
          omega
  exact key _ zs (Nat.le_refl _)
theorem index_zero (w : World) (a0 a1 : Option Addr) (n0 c0 n1 c1 : Nat) : (Instr.index 31 (.agg #[.slice a0 n0 c0, .slice a1 n1 c1]) (.int .i64 0)).run Try.prog w = .ok (.slice a0 n0 c0) w := by
  obtain ⟨i0, hi, hz0, hz1, hz2⟩ := info_parts infoB
  have hs := run_sizeOf (P := Try.prog) w hi
  simp [Instr.index, run_underlying Try.underlying31, asIntOf, part, hs]
theorem index_one (w : World) (a0 a1 : Option Addr) (n0 c0 n1 c1 : Nat) : (Instr.index 31 (.agg #[.slice a0 n0 c0, .slice a1 n1 c1]) (.int .i64 1)).run Try.prog w = .ok (.slice a1 n1 c1) w := by
  obtain ⟨i0, hi, hz0, hz1, hz2⟩ := info_parts infoB
  have hs := run_sizeOf (P := Try.prog) w hi
  have hc : Try.prog.cellsOf 23 = 1 := by kernel_rfl
  simp [Instr.index, run_underlying Try.underlying31, asIntOf, part, hs, hc]
set_option maxHeartbeats 4000000 in
theorem walk (a0 : Option Addr) (len0 cap0 : Nat) (z0 : List Int) (a1 : Option Addr) (len1 cap1 : Nat) (z1 : List (List Int)) (a2 : Int) (a3 : Int) (a4 : Int) (w : World) (w0 : IsRow .u8 w a0 len0 cap0 z0) (l1 : z1.length = len1) (w1 : RowsOf w a1 cap1 z1) (w2 : (Lit.int .i64 a2).wf = true) (w3 : (Lit.int .u8 a3).wf = true) (w4 : (Lit.int .i64 a4).wf = true) :
    Calls Try.prog 4 #[.slice a0 len0 cap0, .slice a1 len1 cap1, .int .i64 a2, .int .u8 a3, .int .i64 a4] w fun e w' => e = .returned (.bool true) ∧ Below w.heap.size w w' := by
  obtain ⟨m0, m1⟩ := bounds_i64 w2
  obtain ⟨y0, y1⟩ := bounds_u8 w3
  obtain ⟨m2, m3⟩ := bounds_i64 w4
  have hnil0 : a0 = none → len0 = 0 ∧ cap0 = 0 := by
    rcases w0 with ⟨_, h, h', _⟩ | ⟨x, rfl, _⟩
    · exact fun _ => ⟨h, h'⟩
    · intro h; cases h
  have hcap0 : len0 ≤ cap0 := by
    rcases w0 with ⟨_, h, h', _⟩ | ⟨x, rfl, h, _⟩
    · omega
    · exact h
  obtain ⟨A, hA, rA⟩ := row_of w0
  clear w0 w2 w3 w4
  by_cases h0 : 400 < len0
  · have h0' : (400 : Int) < (len0 : Int) := by omega
    clear l1 w1 hA rA hnil0
    go_enter Try.func4, Try.ntmps4
    go_wp2_with (go_at_call 7; refine (awake_any _).mono ?_; rintro e w1 ⟨rfl, hb⟩)
    go_ret
    exact ⟨rfl, hb⟩
  by_cases h1 : 12 < len1
  · have h1' : (12 : Int) < (len1 : Int) := by omega
    clear l1 w1 hA rA hnil0
    go_enter Try.func4, Try.ntmps4
    go_wp2_with (go_at_call 7; refine (awake_any _).mono ?_; rintro e w1 ⟨rfl, hb⟩)
    go_ret
    exact ⟨rfl, hb⟩
  have HL1 : Hid (z1.length = len1) := l1
  have HR1 : Hid (RowsOf w a1 cap1 z1) := w1
  have HA : Hid (A.length = len0) := hA
  have RA : Hid (Row w a0 A) := rA
  clear l1 w1 hA rA hnil0
  go_enter Try.func4, Try.ntmps4
  go_wp2_with (go_at_call 7; refine (awake_any _).mono ?_; rintro e w1 ⟨rfl, hb⟩)
  have HB1 : Hid (Below w.heap.size w w1) := hb
  clear hb
  go_loopw [11, 12] (fun x i wr => ∃ (k n : Nat) (ax : Option Addr) (cx : Nat), k ≤ len1 ∧ i = .int .i64 k ∧ x = .slice ax n cx ∧ n ≤ 212 * k ∧ Hid (wr.ownsRow w1.heap.size 5 1 (.slice ax n cx) n (bs (fr z1 k))) ∧ Hid (By (fr z1 k)) ∧ Hid (Below w1.heap.size w1 wr)) (fun _ i _ => len1 - (intOf i).toNat)
  case atStart => exact ⟨0, 0, none, 0, Nat.zero_le _, rfl, rfl, Nat.le_refl _, ⟨rfl, .inl ⟨rfl, rfl⟩⟩, by intro z hz; simp [fr, frames] at hz, Below.refl _ _⟩
  case round =>
    obtain ⟨k, n, ax, cx, hk, rfl, rfl, hn, HOWN, HBY, HBW⟩ := hrel
    obtain ⟨wA, rfl⟩ : ∃ wA : World, wA = wr := ⟨wr, rfl⟩
    have HLN : Hid ((fr z1 k).length = n) := by have := HOWN.out.1; rw [bs_len] at this; show _ = _; omega
    by_cases hlt : k < len1
    · obtain ⟨b, off, x, m, c, rfl, E⟩ := elem_at HR1.out HB1.out (k := k) (by rw [HL1.out]; exact hlt)
      have HE : Hid _ := E
      have hcell := E.cell wA HBW.out
      clear E
      by_cases hbig : 200 < m
      · have hbig' : (200 : Int) < (m : Int) := by omega
        go_wp2
        go_ret
        exact ⟨rfl, HB1.out.trans (HBW.out.mono HB1.out.size)⟩
      · have hnb : ¬ (200 : Int) < (m : Int) := by omega
        obtain ⟨Y, hY⟩ : ∃ Y, Y = z1.getD k [] := ⟨_, rfl⟩
        rw [← hY] at HE
        obtain ⟨F, hF⟩ : ∃ F, F = fr z1 k := ⟨_, rfl⟩
        have PUT : Hid (Calls Try.prog 8 #[.slice ax n cx, .slice x m c] wA fun e w' => ∃ ay cy, e = .returned (.tuple #[.slice ay (n + (12 + m)) cy, .int .i64 0]) ∧ w'.ownsRow wA.heap.size 5 1 (.slice ay (n + (12 + m)) cy) (n + (12 + m)) (bs (F ++ frameN Y)) ∧ Below wA.heap.size wA w') := by
          rw [hF]
          exact put_ok ax cx (fr z1 k) n x c Y m wA HLN.out HE.out.len (own_row HOWN.out HBY.out) (HE.out.row wA HBW.out) (own_nil HOWN.out) HE.out.nil (by omega) (by omega)
        have HF : Hid (fr z1 (k + 1) = F ++ frameN Y) := by show _ = _; rw [hF, hY]; exact fr_next z1 k (by rw [HL1.out]; exact hlt)
        have HYB : Hid (By Y) := (HE.out.row wA HBW.out).bytes
        have HFB : Hid (By F) := by rw [hF]; exact HBY.out
        have HFL : Hid (F.length = n) := by rw [hF]; exact HLN.out
        have RFA : Hid (Row wA ax F) := by rw [hF]; exact own_row HOWN.out HBY.out
        clear hF hY
        go_wp2_with (go_at_call 8; refine PUT.out.mono ?_; rintro e w2 ⟨ay, cy, rfl, hown2, hb2⟩; have HO2 : Hid _ := hown2; have HB2 : Hid _ := hb2; clear hown2 hb2)
        have RB2 : Hid (Row w2 ay (F ++ frameN Y)) := own_row HO2.out (HFB.out.app (frame_by Y HYB.out))
        have HOL : Hid ((F ++ frameN Y).length = n + (12 + m)) := by show _ = _; rw [List.length_append, frame_len, HFL.out, HE.out.len]
        have RF2 : Hid (Row w2 ax F) := RFA.out.below HB2.out (Nat.le_refl _)
        have HBW2 : Hid (Below w1.heap.size w1 w2) := HBW.out.trans (HB2.out.mono HBW.out.size)
        have HYL : Hid ((frameN Y).length = 12 + m) := by show _ = _; rw [frame_len, HE.out.len]
        have hadd : ∀ w', (Op.stringOp .add (strOfNums F) (strOfNums (frameN Y))).run Try.prog w' = .ok (.string (strOfNums F ++ strOfNums (frameN Y))) w' := fun w' => run_string_add_sum w' _ _ (by rw [strOfNums_size, strOfNums_size, HFL.out, HYL.out]; omega)
        have KS : Hid (∀ w', Below w2.heap.size w2 w' → Below w2.heap.size w2 w' ∧ w'.cell? ⟨b, off + k, none⟩ = some (.slice x m c) ∧ (convert 23 9 (.slice ay (n + (12 + m)) cy)).run Try.prog w' = .ok (.string (strOfNums (F ++ frameN Y))) w' ∧ (convert 23 9 (.slice ax n cx)).run Try.prog w' = .ok (.string (strOfNums F)) w' ∧ (Op.stringOp .add (strOfNums F) (strOfNums (frameN Y))).run Try.prog w' = .ok (.string (strOfNums F ++ strOfNums (frameN Y))) w') :=
          fun w' h => ⟨h, HE.out.cell w' (HBW2.out.trans (h.mono HBW2.out.size)), str_at HOL.out (RB2.out.below h (Nat.le_refl _)) cy, str_at HFL.out (RF2.out.below h (Nat.le_refl _)) cx, hadd w'⟩
        have FRC : Hid (Calls Try.prog 10 #[.slice x m c] w2.drew fun e w' => ∃ az cz, e = .returned (.slice az (12 + m) cz) ∧ Row w' az (frameN Y) ∧ Below w2.heap.size w2 w') := by
          refine (rframe_any x c Y m w2.drew HE.out.len ((HE.out.row w2 HBW2.out).same rfl) HE.out.nil (by omega)).mono ?_
          rintro e w' ⟨az, cz, rfl, h1, h2⟩
          exact ⟨az, cz, rfl, own_row h1 (frame_by Y HYB.out), (Below.refl _ _).drew.trans h2⟩
        have hs1 : (strOfNums F).size = n := by rw [strOfNums_size, HFL.out]
        have hs2 : (strOfNums (frameN Y)).size = 12 + m := by rw [strOfNums_size, HYL.out]
        have hs3 : ¬ 9223372036854775807 < n + (12 + m) := by omega
        have hs4 : n + (12 + m) ≤ 9223372036854775807 := by omega
        have heq := say_str F (frameN Y)
        have hopG : ∀ p, opG p = { dst := some 66, op := Op.convert 23 9 (Operand.tmp 65), type := 9, pos := p, after := #[{ on := 11, ground := Ground.data }, { on := 2, ground := Ground.guard }], guard := some (2, false) } := fun _ => rfl
        rw [← hopG]
        have q1 : (k : Int) < (len1 : Int) := by omega
        go_region_held3 (fun w' => Below w2.heap.size w2 w' ∧ w'.cell? ⟨b, off + k, none⟩ = some (.slice x m c) ∧ (convert 23 9 (.slice ay (n + (12 + m)) cy)).run Try.prog w' = .ok (.string (strOfNums (F ++ frameN Y))) w' ∧ (convert 23 9 (.slice ax n cx)).run Try.prog w' = .ok (.string (strOfNums F)) w' ∧ (Op.stringOp .add (strOfNums F) (strOfNums (frameN Y))).run Try.prog w' = .ok (.string (strOfNums F ++ strOfNums (frameN Y))) w') (first | exact KS.out _ (by assumption) | exact KS.out _ (Below.refl _ _).drew) (first | (go_at_call 10; refine FRC.out.mono ?_; rintro e w5 ⟨az, cz, rfl, hrow5, hb5⟩; have hcv5 := str_at HYL.out hrow5 cz; clear hrow5))
        go_wp2
        go_roundw
        case rel => exact ⟨k + 1, n + (12 + m), ay, cy, by omega, by go_num, rfl, by omega, by show World.ownsRow _ _ _ _ _ _ _; rw [HF.out]; exact own_below (own_le HO2.out HBW.out.size) hb5, by rw [HF.out]; exact HFB.out.app (frame_by Y HYB.out), HBW2.out.trans (hb5.mono HBW2.out.size)⟩
        case measure => simp [intOf]; omega
    · obtain rfl : k = len1 := by omega
      have HBA : Hid (Below w.heap.size w wA) := HB1.out.trans (HBW.out.mono HB1.out.size)
      obtain ⟨F, hF⟩ : ∃ F, F = fr z1 k := ⟨_, rfl⟩
      have RF : Hid (Row wA ax F) := by rw [hF]; exact own_row HOWN.out HBY.out
      have HFL : Hid (F.length = n) := by rw [hF]; exact HLN.out
      have hcx : n ≤ cx := own_cap HOWN.out
      have MF : Hid (0 < n → ∃ g, ax = some ⟨g, 0, none⟩ ∧ w1.heap.size ≤ g ∧ Mine wA g F) := fun h => by
        obtain ⟨g, h1, h2, h3, _⟩ := mine_of_own HOWN.out HBY.out h
        exact ⟨g, h1, h2, by rw [hF]; exact h3⟩
      have NF : Hid ((ax = none ∧ n = 0 ∧ cx = 0) ∨ ∃ g, ax = some ⟨g, 0, none⟩) := by
        rcases HOWN.out.2 with ⟨h1, h2⟩ | ⟨g, cap, cur, h1, _⟩
        · cases h1; exact .inl ⟨rfl, h2, rfl⟩
        · cases h1; exact .inr ⟨g, rfl⟩
      have hix0 := index_zero
      have hix1 := index_one
      clear hF hlt hk HOWN HBY HBW HLN
      by_cases hat : 0 ≤ a2 ∧ a2 < n
      · obtain ⟨g, rfl, hg, hmine⟩ := MF.out (by omega)
        obtain ⟨p, rfl⟩ : ∃ p : Nat, a2 = p := ⟨a2.toNat, by omega⟩
        have hp : p < n := by omega
        have hfree := hmine.free p
        have hpc := hmine.cells p (by rw [HFL.out]; exact hp)
        have fb := at_byte hmine.bytes p
        have HM : Hid (Mine wA g F) := hmine
        obtain ⟨v, hv⟩ : ∃ v, v = F.getD p 0 := ⟨_, rfl⟩
        rw [← hv] at hpc
        have hvb : 0 ≤ v ∧ v ≤ 255 := by rw [hv]; exact fb
        have X1 : bits BinOp.xor IntKind.u8 v a3 = ((v.toNat ^^^ a3.toNat : Nat) : Int) := u8_xor _ _ hvb.1 (by omega) y0 (by omega)
        have X2 : v.toNat ^^^ a3.toNat < 256 := Nat.xor_lt_two_pow (n := 8) (by omega) (by omega)
        obtain ⟨xv, hxv⟩ : ∃ xv, xv = ((v.toNat ^^^ a3.toNat : Nat) : Int) := ⟨_, rfl⟩
        have hxb : 0 ≤ xv ∧ xv ≤ 255 := by rw [hxv]; omega
        rw [← hxv] at X1
        clear hmine fb hv hxv X2 NF MF
        have HM2 : Hid (Mine (wA.setCell ⟨g, p, none⟩ (.int .u8 xv)) g (F.set p xv)) := HM.out.set p xv (by rw [HFL.out]; exact hp) hxb.1 hxb.2
        have HB2' : Hid (Below w.heap.size w (wA.setCell ⟨g, p, none⟩ (.int .u8 xv))) := HBA.out.setCell (Nat.le_trans HB1.out.size hg) _
        have HL2 : Hid ((F.set p xv).length = n) := by show _ = _; rw [List.length_set]; exact HFL.out
        by_cases hct : 0 ≤ a4 ∧ a4 ≤ n
        · obtain ⟨cut, rfl⟩ : ∃ cut : Nat, a4 = cut := ⟨a4.toNat, by omega⟩
          have hc1 : cut ≤ n := by omega
          have hcc : cut ≤ cx := by omega
          have hcx0 : ¬ cx = 0 := by omega
          have RF2 : Hid (Row (wA.setCell ⟨g, p, none⟩ (.int .u8 xv)) (some ⟨g, 0, none⟩) ((F.set p xv).take cut)) := HM2.out.row.take cut
          have HBT : Hid (Below w.heap.size w (wA.setCell ⟨g, p, none⟩ (.int .u8 xv))) := HB2'.out
          have HLX : Hid (((F.set p xv).take cut).length = cut) := (by show _ = _; rw [List.length_take, HL2.out]; omega)
          go_wp2
          obtain ⟨wT, hwT⟩ : ∃ wT, wT = (wA.setCell ⟨g, p, none⟩ (.int .u8 xv)) := ⟨_, rfl⟩
          rw [← hwT] at RF2 HBT ⊢
          clear hwT
          go_loopw [102] (fun i wr => ∃ j : Nat, j ≤ 2 ∧ i = .int .i64 j ∧ Hid (Below wT.heap.size wT wr)) (fun i _ => 2 - (intOf i).toNat)
          case atStart => exact ⟨0, by omega, rfl, Below.refl _ _⟩
          case round =>
            obtain ⟨j, hj, rfl, HBC⟩ := hrel
            obtain ⟨wC, rfl⟩ : ∃ wC : World, wC = wr := ⟨wr, rfl⟩
            have hj3 : j = 0 ∨ j = 1 ∨ j = 2 := by omega
            rcases hj3 with rfl | rfl | rfl
            · obtain ⟨L, u, ok, hs⟩ : ∃ L u ok, scanN A = (L, u, ok) := ⟨_, _, _, rfl⟩
              obtain ⟨NL, hNL⟩ : ∃ NL, L.length = NL := ⟨_, rfl⟩
              have HSX : Hid (scanN A = (L, u, ok)) := hs
              have HNL : Hid (L.length = NL) := hNL
              have hNb : NL ≤ 1000000 := by
                have h1 := scan_count A
                rw [hs] at h1
                have h2 := HA.out
                simp only at h1
                omega
              have huu : (((u : Nat) : Int) != ((u : Nat) : Int)) = false := by simp
              have hok : (ok != ok) = false := by simp
              clear hs hNL
              have RXX : Hid (Row wC a0 A) := ((RA.out.below HBT.out (Nat.le_refl _)).below HBC.out (Nat.le_refl _))
              go_wp2_with (first | (have hgo := HO7.out; clear hgo; go_at_call 12; refine (same_true (HO6.out.rows.below HB7.out (Nat.le_refl _)) HO7.out.rows HNL.out (by omega)).mono ?_; rintro e w8 ⟨rfl, m8, rfl⟩) | (have hgo := HO6.out; clear hgo; go_at_call 11; refine (rscan_as a0 cap0 A len0 w6 HA.out (RXX.out.below HB6.out (Nat.le_refl _)) hcap0 (by omega) HSX.out HNL.out).mono ?_; rintro e w7 ⟨a7, c7, rfl, ho7, hb7⟩; have HO7 : Hid _ := ho7; have HB7 : Hid (Below w6.heap.size w6 w7) := hb7; clear ho7 hb7) | (go_at_call 9; refine (scan_as a0 cap0 A len0 wC HA.out RXX.out hcap0 (by omega) HSX.out HNL.out).mono ?_; rintro e w6 ⟨a6, c6, rfl, ho6, hb6⟩; have HO6 : Hid _ := ho6; have HB6 : Hid (Below wC.heap.size wC w6) := hb6; clear ho6 hb6))
              go_roundw
              case rel => exact ⟨1, by omega, rfl, HBC.out.trans (below_drewN ((HB6.out.mono HBC.out.size).trans (HB7.out.mono (Nat.le_trans HBC.out.size HB6.out.size))) _)⟩
              case measure => simp [intOf]
            · obtain ⟨L, u, ok, hs⟩ : ∃ L u ok, scanN ((F.set p xv).take cut) = (L, u, ok) := ⟨_, _, _, rfl⟩
              obtain ⟨NL, hNL⟩ : ∃ NL, L.length = NL := ⟨_, rfl⟩
              have HSX : Hid (scanN ((F.set p xv).take cut) = (L, u, ok)) := hs
              have HNL : Hid (L.length = NL) := hNL
              have hNb : NL ≤ 1000000 := by
                have h1 := scan_count ((F.set p xv).take cut)
                rw [hs] at h1
                have h2 := HLX.out
                simp only at h1
                omega
              have huu : (((u : Nat) : Int) != ((u : Nat) : Int)) = false := by simp
              have hok : (ok != ok) = false := by simp
              clear hs hNL
              have RXX : Hid (Row wC (some ⟨g, 0, none⟩) ((F.set p xv).take cut)) := RF2.out.below HBC.out (Nat.le_refl _)
              go_wp2_with (first | (have hgo := HO7.out; clear hgo; go_at_call 12; refine (same_true (HO6.out.rows.below HB7.out (Nat.le_refl _)) HO7.out.rows HNL.out (by omega)).mono ?_; rintro e w8 ⟨rfl, m8, rfl⟩) | (have hgo := HO6.out; clear hgo; go_at_call 11; refine (rscan_as (some ⟨g, 0, none⟩) cx ((F.set p xv).take cut) cut w6 HLX.out (RXX.out.below HB6.out (Nat.le_refl _)) hcc (by omega) HSX.out HNL.out).mono ?_; rintro e w7 ⟨a7, c7, rfl, ho7, hb7⟩; have HO7 : Hid _ := ho7; have HB7 : Hid (Below w6.heap.size w6 w7) := hb7; clear ho7 hb7) | (go_at_call 9; refine (scan_as (some ⟨g, 0, none⟩) cx ((F.set p xv).take cut) cut wC HLX.out RXX.out hcc (by omega) HSX.out HNL.out).mono ?_; rintro e w6 ⟨a6, c6, rfl, ho6, hb6⟩; have HO6 : Hid _ := ho6; have HB6 : Hid (Below wC.heap.size wC w6) := hb6; clear ho6 hb6))
              go_roundw
              case rel => exact ⟨2, by omega, rfl, HBC.out.trans (below_drewN ((HB6.out.mono HBC.out.size).trans (HB7.out.mono (Nat.le_trans HBC.out.size HB6.out.size))) _)⟩
              case measure => simp [intOf]
            · go_wp2
              go_ret
              exact ⟨rfl, HBT.out.trans (HBC.out.mono HBT.out.size)⟩
        · have hct3 : a4 < 0 ∨ (n : Int) < a4 := by omega
          rcases hct3 with d2 | d2
          all_goals
            have RF2 : Hid (Row (wA.setCell ⟨g, p, none⟩ (.int .u8 xv)) (some ⟨g, 0, none⟩) (F.set p xv)) := HM2.out.row
            have HBT : Hid (Below w.heap.size w (wA.setCell ⟨g, p, none⟩ (.int .u8 xv))) := HB2'.out
            have HLX : Hid ((F.set p xv).length = n) := HL2.out
            go_wp2
            obtain ⟨wT, hwT⟩ : ∃ wT, wT = (wA.setCell ⟨g, p, none⟩ (.int .u8 xv)) := ⟨_, rfl⟩
            rw [← hwT] at RF2 HBT ⊢
            clear hwT
            go_loopw [102] (fun i wr => ∃ j : Nat, j ≤ 2 ∧ i = .int .i64 j ∧ Hid (Below wT.heap.size wT wr)) (fun i _ => 2 - (intOf i).toNat)
            case atStart => exact ⟨0, by omega, rfl, Below.refl _ _⟩
            case round =>
              obtain ⟨j, hj, rfl, HBC⟩ := hrel
              obtain ⟨wC, rfl⟩ : ∃ wC : World, wC = wr := ⟨wr, rfl⟩
              have hj3 : j = 0 ∨ j = 1 ∨ j = 2 := by omega
              rcases hj3 with rfl | rfl | rfl
              · obtain ⟨L, u, ok, hs⟩ : ∃ L u ok, scanN A = (L, u, ok) := ⟨_, _, _, rfl⟩
                obtain ⟨NL, hNL⟩ : ∃ NL, L.length = NL := ⟨_, rfl⟩
                have HSX : Hid (scanN A = (L, u, ok)) := hs
                have HNL : Hid (L.length = NL) := hNL
                have hNb : NL ≤ 1000000 := by
                  have h1 := scan_count A
                  rw [hs] at h1
                  have h2 := HA.out
                  simp only at h1
                  omega
                have huu : (((u : Nat) : Int) != ((u : Nat) : Int)) = false := by simp
                have hok : (ok != ok) = false := by simp
                clear hs hNL
                have RXX : Hid (Row wC a0 A) := ((RA.out.below HBT.out (Nat.le_refl _)).below HBC.out (Nat.le_refl _))
                go_wp2_with (first | (have hgo := HO7.out; clear hgo; go_at_call 12; refine (same_true (HO6.out.rows.below HB7.out (Nat.le_refl _)) HO7.out.rows HNL.out (by omega)).mono ?_; rintro e w8 ⟨rfl, m8, rfl⟩) | (have hgo := HO6.out; clear hgo; go_at_call 11; refine (rscan_as a0 cap0 A len0 w6 HA.out (RXX.out.below HB6.out (Nat.le_refl _)) hcap0 (by omega) HSX.out HNL.out).mono ?_; rintro e w7 ⟨a7, c7, rfl, ho7, hb7⟩; have HO7 : Hid _ := ho7; have HB7 : Hid (Below w6.heap.size w6 w7) := hb7; clear ho7 hb7) | (go_at_call 9; refine (scan_as a0 cap0 A len0 wC HA.out RXX.out hcap0 (by omega) HSX.out HNL.out).mono ?_; rintro e w6 ⟨a6, c6, rfl, ho6, hb6⟩; have HO6 : Hid _ := ho6; have HB6 : Hid (Below wC.heap.size wC w6) := hb6; clear ho6 hb6))
                go_roundw
                case rel => exact ⟨1, by omega, rfl, HBC.out.trans (below_drewN ((HB6.out.mono HBC.out.size).trans (HB7.out.mono (Nat.le_trans HBC.out.size HB6.out.size))) _)⟩
                case measure => simp [intOf]
              · obtain ⟨L, u, ok, hs⟩ : ∃ L u ok, scanN (F.set p xv) = (L, u, ok) := ⟨_, _, _, rfl⟩
                obtain ⟨NL, hNL⟩ : ∃ NL, L.length = NL := ⟨_, rfl⟩
                have HSX : Hid (scanN (F.set p xv) = (L, u, ok)) := hs
                have HNL : Hid (L.length = NL) := hNL
                have hNb : NL ≤ 1000000 := by
                  have h1 := scan_count (F.set p xv)
                  rw [hs] at h1
                  have h2 := HLX.out
                  simp only at h1
                  omega
                have huu : (((u : Nat) : Int) != ((u : Nat) : Int)) = false := by simp
                have hok : (ok != ok) = false := by simp
                clear hs hNL
                have RXX : Hid (Row wC (some ⟨g, 0, none⟩) (F.set p xv)) := RF2.out.below HBC.out (Nat.le_refl _)
                go_wp2_with (first | (have hgo := HO7.out; clear hgo; go_at_call 12; refine (same_true (HO6.out.rows.below HB7.out (Nat.le_refl _)) HO7.out.rows HNL.out (by omega)).mono ?_; rintro e w8 ⟨rfl, m8, rfl⟩) | (have hgo := HO6.out; clear hgo; go_at_call 11; refine (rscan_as (some ⟨g, 0, none⟩) cx (F.set p xv) n w6 HLX.out (RXX.out.below HB6.out (Nat.le_refl _)) hcx (by omega) HSX.out HNL.out).mono ?_; rintro e w7 ⟨a7, c7, rfl, ho7, hb7⟩; have HO7 : Hid _ := ho7; have HB7 : Hid (Below w6.heap.size w6 w7) := hb7; clear ho7 hb7) | (go_at_call 9; refine (scan_as (some ⟨g, 0, none⟩) cx (F.set p xv) n wC HLX.out RXX.out hcx (by omega) HSX.out HNL.out).mono ?_; rintro e w6 ⟨a6, c6, rfl, ho6, hb6⟩; have HO6 : Hid _ := ho6; have HB6 : Hid (Below wC.heap.size wC w6) := hb6; clear ho6 hb6))
                go_roundw
                case rel => exact ⟨2, by omega, rfl, HBC.out.trans (below_drewN ((HB6.out.mono HBC.out.size).trans (HB7.out.mono (Nat.le_trans HBC.out.size HB6.out.size))) _)⟩
                case measure => simp [intOf]
              · go_wp2
                go_ret
                exact ⟨rfl, HBT.out.trans (HBC.out.mono HBT.out.size)⟩
      · have hat3 : a2 < 0 ∨ (n : Int) ≤ a2 := by omega
        by_cases hct : 0 ≤ a4 ∧ a4 ≤ n
        · obtain ⟨cut, rfl⟩ : ∃ cut : Nat, a4 = cut := ⟨a4.toNat, by omega⟩
          have hc1 : cut ≤ n := by omega
          have hcc : cut ≤ cx := by omega
          rcases NF.out with ⟨rfl, rfl, rfl⟩ | ⟨g, rfl⟩
          · obtain rfl : cut = 0 := by omega
            clear MF NF
            rcases hat3 with d1 | d1
            all_goals
              have RF2 : Hid (Row wA none F) := RF.out
              have HBT : Hid (Below w.heap.size w wA) := HBA.out
              have HLX : Hid (F.length = 0) := HFL.out
              go_wp2
              obtain ⟨wT, hwT⟩ : ∃ wT, wT = wA := ⟨_, rfl⟩
              rw [← hwT] at RF2 HBT ⊢
              clear hwT
              go_loopw [102] (fun i wr => ∃ j : Nat, j ≤ 2 ∧ i = .int .i64 j ∧ Hid (Below wT.heap.size wT wr)) (fun i _ => 2 - (intOf i).toNat)
              case atStart => exact ⟨0, by omega, rfl, Below.refl _ _⟩
              case round =>
                obtain ⟨j, hj, rfl, HBC⟩ := hrel
                obtain ⟨wC, rfl⟩ : ∃ wC : World, wC = wr := ⟨wr, rfl⟩
                have hj3 : j = 0 ∨ j = 1 ∨ j = 2 := by omega
                rcases hj3 with rfl | rfl | rfl
                · obtain ⟨L, u, ok, hs⟩ : ∃ L u ok, scanN A = (L, u, ok) := ⟨_, _, _, rfl⟩
                  obtain ⟨NL, hNL⟩ : ∃ NL, L.length = NL := ⟨_, rfl⟩
                  have HSX : Hid (scanN A = (L, u, ok)) := hs
                  have HNL : Hid (L.length = NL) := hNL
                  have hNb : NL ≤ 1000000 := by
                    have h1 := scan_count A
                    rw [hs] at h1
                    have h2 := HA.out
                    simp only at h1
                    omega
                  have huu : (((u : Nat) : Int) != ((u : Nat) : Int)) = false := by simp
                  have hok : (ok != ok) = false := by simp
                  clear hs hNL
                  have RXX : Hid (Row wC a0 A) := ((RA.out.below HBT.out (Nat.le_refl _)).below HBC.out (Nat.le_refl _))
                  go_wp2_with (first | (have hgo := HO7.out; clear hgo; go_at_call 12; refine (same_true (HO6.out.rows.below HB7.out (Nat.le_refl _)) HO7.out.rows HNL.out (by omega)).mono ?_; rintro e w8 ⟨rfl, m8, rfl⟩) | (have hgo := HO6.out; clear hgo; go_at_call 11; refine (rscan_as a0 cap0 A len0 w6 HA.out (RXX.out.below HB6.out (Nat.le_refl _)) hcap0 (by omega) HSX.out HNL.out).mono ?_; rintro e w7 ⟨a7, c7, rfl, ho7, hb7⟩; have HO7 : Hid _ := ho7; have HB7 : Hid (Below w6.heap.size w6 w7) := hb7; clear ho7 hb7) | (go_at_call 9; refine (scan_as a0 cap0 A len0 wC HA.out RXX.out hcap0 (by omega) HSX.out HNL.out).mono ?_; rintro e w6 ⟨a6, c6, rfl, ho6, hb6⟩; have HO6 : Hid _ := ho6; have HB6 : Hid (Below wC.heap.size wC w6) := hb6; clear ho6 hb6))
                  go_roundw
                  case rel => exact ⟨1, by omega, rfl, HBC.out.trans (below_drewN ((HB6.out.mono HBC.out.size).trans (HB7.out.mono (Nat.le_trans HBC.out.size HB6.out.size))) _)⟩
                  case measure => simp [intOf]
                · obtain ⟨L, u, ok, hs⟩ : ∃ L u ok, scanN F = (L, u, ok) := ⟨_, _, _, rfl⟩
                  obtain ⟨NL, hNL⟩ : ∃ NL, L.length = NL := ⟨_, rfl⟩
                  have HSX : Hid (scanN F = (L, u, ok)) := hs
                  have HNL : Hid (L.length = NL) := hNL
                  have hNb : NL ≤ 1000000 := by
                    have h1 := scan_count F
                    rw [hs] at h1
                    have h2 := HLX.out
                    simp only at h1
                    omega
                  have huu : (((u : Nat) : Int) != ((u : Nat) : Int)) = false := by simp
                  have hok : (ok != ok) = false := by simp
                  clear hs hNL
                  have RXX : Hid (Row wC none F) := RF2.out.below HBC.out (Nat.le_refl _)
                  go_wp2_with (first | (have hgo := HO7.out; clear hgo; go_at_call 12; refine (same_true (HO6.out.rows.below HB7.out (Nat.le_refl _)) HO7.out.rows HNL.out (by omega)).mono ?_; rintro e w8 ⟨rfl, m8, rfl⟩) | (have hgo := HO6.out; clear hgo; go_at_call 11; refine (rscan_as none 0 F 0 w6 HLX.out (RXX.out.below HB6.out (Nat.le_refl _)) (Nat.le_refl 0) (by omega) HSX.out HNL.out).mono ?_; rintro e w7 ⟨a7, c7, rfl, ho7, hb7⟩; have HO7 : Hid _ := ho7; have HB7 : Hid (Below w6.heap.size w6 w7) := hb7; clear ho7 hb7) | (go_at_call 9; refine (scan_as none 0 F 0 wC HLX.out RXX.out (Nat.le_refl 0) (by omega) HSX.out HNL.out).mono ?_; rintro e w6 ⟨a6, c6, rfl, ho6, hb6⟩; have HO6 : Hid _ := ho6; have HB6 : Hid (Below wC.heap.size wC w6) := hb6; clear ho6 hb6))
                  go_roundw
                  case rel => exact ⟨2, by omega, rfl, HBC.out.trans (below_drewN ((HB6.out.mono HBC.out.size).trans (HB7.out.mono (Nat.le_trans HBC.out.size HB6.out.size))) _)⟩
                  case measure => simp [intOf]
                · go_wp2
                  go_ret
                  exact ⟨rfl, HBT.out.trans (HBC.out.mono HBT.out.size)⟩
          · clear MF NF
            rcases hat3 with d1 | d1
            all_goals
              have RF2 : Hid (Row wA (some ⟨g, 0, none⟩) (F.take cut)) := RF.out.take cut
              have HBT : Hid (Below w.heap.size w wA) := HBA.out
              have HLX : Hid ((F.take cut).length = cut) := (by show _ = _; rw [List.length_take, HFL.out]; omega)
              go_wp2
              obtain ⟨wT, hwT⟩ : ∃ wT, wT = wA := ⟨_, rfl⟩
              rw [← hwT] at RF2 HBT ⊢
              clear hwT
              go_loopw [102] (fun i wr => ∃ j : Nat, j ≤ 2 ∧ i = .int .i64 j ∧ Hid (Below wT.heap.size wT wr)) (fun i _ => 2 - (intOf i).toNat)
              case atStart => exact ⟨0, by omega, rfl, Below.refl _ _⟩
              case round =>
                obtain ⟨j, hj, rfl, HBC⟩ := hrel
                obtain ⟨wC, rfl⟩ : ∃ wC : World, wC = wr := ⟨wr, rfl⟩
                have hj3 : j = 0 ∨ j = 1 ∨ j = 2 := by omega
                rcases hj3 with rfl | rfl | rfl
                · obtain ⟨L, u, ok, hs⟩ : ∃ L u ok, scanN A = (L, u, ok) := ⟨_, _, _, rfl⟩
                  obtain ⟨NL, hNL⟩ : ∃ NL, L.length = NL := ⟨_, rfl⟩
                  have HSX : Hid (scanN A = (L, u, ok)) := hs
                  have HNL : Hid (L.length = NL) := hNL
                  have hNb : NL ≤ 1000000 := by
                    have h1 := scan_count A
                    rw [hs] at h1
                    have h2 := HA.out
                    simp only at h1
                    omega
                  have huu : (((u : Nat) : Int) != ((u : Nat) : Int)) = false := by simp
                  have hok : (ok != ok) = false := by simp
                  clear hs hNL
                  have RXX : Hid (Row wC a0 A) := ((RA.out.below HBT.out (Nat.le_refl _)).below HBC.out (Nat.le_refl _))
                  go_wp2_with (first | (have hgo := HO7.out; clear hgo; go_at_call 12; refine (same_true (HO6.out.rows.below HB7.out (Nat.le_refl _)) HO7.out.rows HNL.out (by omega)).mono ?_; rintro e w8 ⟨rfl, m8, rfl⟩) | (have hgo := HO6.out; clear hgo; go_at_call 11; refine (rscan_as a0 cap0 A len0 w6 HA.out (RXX.out.below HB6.out (Nat.le_refl _)) hcap0 (by omega) HSX.out HNL.out).mono ?_; rintro e w7 ⟨a7, c7, rfl, ho7, hb7⟩; have HO7 : Hid _ := ho7; have HB7 : Hid (Below w6.heap.size w6 w7) := hb7; clear ho7 hb7) | (go_at_call 9; refine (scan_as a0 cap0 A len0 wC HA.out RXX.out hcap0 (by omega) HSX.out HNL.out).mono ?_; rintro e w6 ⟨a6, c6, rfl, ho6, hb6⟩; have HO6 : Hid _ := ho6; have HB6 : Hid (Below wC.heap.size wC w6) := hb6; clear ho6 hb6))
                  go_roundw
                  case rel => exact ⟨1, by omega, rfl, HBC.out.trans (below_drewN ((HB6.out.mono HBC.out.size).trans (HB7.out.mono (Nat.le_trans HBC.out.size HB6.out.size))) _)⟩
                  case measure => simp [intOf]
                · obtain ⟨L, u, ok, hs⟩ : ∃ L u ok, scanN (F.take cut) = (L, u, ok) := ⟨_, _, _, rfl⟩
                  obtain ⟨NL, hNL⟩ : ∃ NL, L.length = NL := ⟨_, rfl⟩
                  have HSX : Hid (scanN (F.take cut) = (L, u, ok)) := hs
                  have HNL : Hid (L.length = NL) := hNL
                  have hNb : NL ≤ 1000000 := by
                    have h1 := scan_count (F.take cut)
                    rw [hs] at h1
                    have h2 := HLX.out
                    simp only at h1
                    omega
                  have huu : (((u : Nat) : Int) != ((u : Nat) : Int)) = false := by simp
                  have hok : (ok != ok) = false := by simp
                  clear hs hNL
                  have RXX : Hid (Row wC (some ⟨g, 0, none⟩) (F.take cut)) := RF2.out.below HBC.out (Nat.le_refl _)
                  go_wp2_with (first | (have hgo := HO7.out; clear hgo; go_at_call 12; refine (same_true (HO6.out.rows.below HB7.out (Nat.le_refl _)) HO7.out.rows HNL.out (by omega)).mono ?_; rintro e w8 ⟨rfl, m8, rfl⟩) | (have hgo := HO6.out; clear hgo; go_at_call 11; refine (rscan_as (some ⟨g, 0, none⟩) cx (F.take cut) cut w6 HLX.out (RXX.out.below HB6.out (Nat.le_refl _)) hcc (by omega) HSX.out HNL.out).mono ?_; rintro e w7 ⟨a7, c7, rfl, ho7, hb7⟩; have HO7 : Hid _ := ho7; have HB7 : Hid (Below w6.heap.size w6 w7) := hb7; clear ho7 hb7) | (go_at_call 9; refine (scan_as (some ⟨g, 0, none⟩) cx (F.take cut) cut wC HLX.out RXX.out hcc (by omega) HSX.out HNL.out).mono ?_; rintro e w6 ⟨a6, c6, rfl, ho6, hb6⟩; have HO6 : Hid _ := ho6; have HB6 : Hid (Below wC.heap.size wC w6) := hb6; clear ho6 hb6))
                  go_roundw
                  case rel => exact ⟨2, by omega, rfl, HBC.out.trans (below_drewN ((HB6.out.mono HBC.out.size).trans (HB7.out.mono (Nat.le_trans HBC.out.size HB6.out.size))) _)⟩
                  case measure => simp [intOf]
                · go_wp2
                  go_ret
                  exact ⟨rfl, HBT.out.trans (HBC.out.mono HBT.out.size)⟩
        · have hct3 : a4 < 0 ∨ (n : Int) < a4 := by omega
          clear MF NF
          rcases hat3 with d1 | d1 <;> rcases hct3 with d2 | d2
          all_goals
            have RF2 : Hid (Row wA ax F) := RF.out
            have HBT : Hid (Below w.heap.size w wA) := HBA.out
            have HLX : Hid (F.length = n) := HFL.out
            go_wp2
            obtain ⟨wT, hwT⟩ : ∃ wT, wT = wA := ⟨_, rfl⟩
            rw [← hwT] at RF2 HBT ⊢
            clear hwT
            go_loopw [102] (fun i wr => ∃ j : Nat, j ≤ 2 ∧ i = .int .i64 j ∧ Hid (Below wT.heap.size wT wr)) (fun i _ => 2 - (intOf i).toNat)
            case atStart => exact ⟨0, by omega, rfl, Below.refl _ _⟩
            case round =>
              obtain ⟨j, hj, rfl, HBC⟩ := hrel
              obtain ⟨wC, rfl⟩ : ∃ wC : World, wC = wr := ⟨wr, rfl⟩
              have hj3 : j = 0 ∨ j = 1 ∨ j = 2 := by omega
              rcases hj3 with rfl | rfl | rfl
              · obtain ⟨L, u, ok, hs⟩ : ∃ L u ok, scanN A = (L, u, ok) := ⟨_, _, _, rfl⟩
                obtain ⟨NL, hNL⟩ : ∃ NL, L.length = NL := ⟨_, rfl⟩
                have HSX : Hid (scanN A = (L, u, ok)) := hs
                have HNL : Hid (L.length = NL) := hNL
                have hNb : NL ≤ 1000000 := by
                  have h1 := scan_count A
                  rw [hs] at h1
                  have h2 := HA.out
                  simp only at h1
                  omega
                have huu : (((u : Nat) : Int) != ((u : Nat) : Int)) = false := by simp
                have hok : (ok != ok) = false := by simp
                clear hs hNL
                have RXX : Hid (Row wC a0 A) := ((RA.out.below HBT.out (Nat.le_refl _)).below HBC.out (Nat.le_refl _))
                go_wp2_with (first | (have hgo := HO7.out; clear hgo; go_at_call 12; refine (same_true (HO6.out.rows.below HB7.out (Nat.le_refl _)) HO7.out.rows HNL.out (by omega)).mono ?_; rintro e w8 ⟨rfl, m8, rfl⟩) | (have hgo := HO6.out; clear hgo; go_at_call 11; refine (rscan_as a0 cap0 A len0 w6 HA.out (RXX.out.below HB6.out (Nat.le_refl _)) hcap0 (by omega) HSX.out HNL.out).mono ?_; rintro e w7 ⟨a7, c7, rfl, ho7, hb7⟩; have HO7 : Hid _ := ho7; have HB7 : Hid (Below w6.heap.size w6 w7) := hb7; clear ho7 hb7) | (go_at_call 9; refine (scan_as a0 cap0 A len0 wC HA.out RXX.out hcap0 (by omega) HSX.out HNL.out).mono ?_; rintro e w6 ⟨a6, c6, rfl, ho6, hb6⟩; have HO6 : Hid _ := ho6; have HB6 : Hid (Below wC.heap.size wC w6) := hb6; clear ho6 hb6))
                go_roundw
                case rel => exact ⟨1, by omega, rfl, HBC.out.trans (below_drewN ((HB6.out.mono HBC.out.size).trans (HB7.out.mono (Nat.le_trans HBC.out.size HB6.out.size))) _)⟩
                case measure => simp [intOf]
              · obtain ⟨L, u, ok, hs⟩ : ∃ L u ok, scanN F = (L, u, ok) := ⟨_, _, _, rfl⟩
                obtain ⟨NL, hNL⟩ : ∃ NL, L.length = NL := ⟨_, rfl⟩
                have HSX : Hid (scanN F = (L, u, ok)) := hs
                have HNL : Hid (L.length = NL) := hNL
                have hNb : NL ≤ 1000000 := by
                  have h1 := scan_count F
                  rw [hs] at h1
                  have h2 := HLX.out
                  simp only at h1
                  omega
                have huu : (((u : Nat) : Int) != ((u : Nat) : Int)) = false := by simp
                have hok : (ok != ok) = false := by simp
                clear hs hNL
                have RXX : Hid (Row wC ax F) := RF2.out.below HBC.out (Nat.le_refl _)
                go_wp2_with (first | (have hgo := HO7.out; clear hgo; go_at_call 12; refine (same_true (HO6.out.rows.below HB7.out (Nat.le_refl _)) HO7.out.rows HNL.out (by omega)).mono ?_; rintro e w8 ⟨rfl, m8, rfl⟩) | (have hgo := HO6.out; clear hgo; go_at_call 11; refine (rscan_as ax cx F n w6 HLX.out (RXX.out.below HB6.out (Nat.le_refl _)) hcx (by omega) HSX.out HNL.out).mono ?_; rintro e w7 ⟨a7, c7, rfl, ho7, hb7⟩; have HO7 : Hid _ := ho7; have HB7 : Hid (Below w6.heap.size w6 w7) := hb7; clear ho7 hb7) | (go_at_call 9; refine (scan_as ax cx F n wC HLX.out RXX.out hcx (by omega) HSX.out HNL.out).mono ?_; rintro e w6 ⟨a6, c6, rfl, ho6, hb6⟩; have HO6 : Hid _ := ho6; have HB6 : Hid (Below wC.heap.size wC w6) := hb6; clear ho6 hb6))
                go_roundw
                case rel => exact ⟨2, by omega, rfl, HBC.out.trans (below_drewN ((HB6.out.mono HBC.out.size).trans (HB7.out.mono (Nat.le_trans HBC.out.size HB6.out.size))) _)⟩
                case measure => simp [intOf]
              · go_wp2
                go_ret
                exact ⟨rfl, HBT.out.trans (HBC.out.mono HBT.out.size)⟩

set_option maxRecDepth 100000 in
theorem lifted (os : Os) (started : os.Started) (H : Type) (enc : TypeId × Value → H) :
    ReturnsInHanded {} Try.checked os 4 .any (Rows.frameScansSpec.pre6 enc Try.prog Try.f4 Rows.frameScansRow.domain false) (Rows.frameScansSpec.post enc Try.prog Try.f4 false true false false) := by
  refine returnsInHanded_of_change (C := Try.checked) own started (by kernel_rfl) Try.func4
    (ChangeSpec.witness6 (enc := enc) (C := Try.checked) false ⟨#[], #[.slice none 0 0, .slice none 0 0, .int .i64 0, .int .u8 0, .int .i64 0], []⟩ 8 (by kernel_rfl) (by kernel_rfl) (by kernel_rfl) (by kernel_rfl)) ?_
  intro W base args ds gs before hval0 hW hcnd _
  have hval : ∀ (j : Nat) t v, Try.f4.params[j]? = some t → args[j]? = some v → Value.okWide Try.prog W .any base t v := hval0
  have hW' := hW
  obtain ⟨p, q, hA0, hV, rfl, hfz, hnd⟩ := hW
  have hA : DataW.TrodAll enc Try.prog W 0 (fun _ => true) true Try.f4.params.toList args.toList ds p := hA0
  rw [Try.params4] at hA hval
  obtain ⟨v0, vs0, d0, ds0, p0, q0, hargs, rfl, rfl, h0, r0⟩ := trodAll_cons hA
  obtain ⟨v1, vs1, d1, ds1, p1, q1, rfl, rfl, rfl, h1, r1⟩ := trodAll_cons r0
  obtain ⟨v2, vs2, d2, ds2, p2, q2, rfl, rfl, rfl, h2, r2⟩ := trodAll_cons r1
  obtain ⟨v3, vs3, d3, ds3, p3, q3, rfl, rfl, rfl, h3, r3⟩ := trodAll_cons r2
  obtain ⟨v4, vs4, d4, ds4, p4, q4, rfl, rfl, rfl, h4, r4⟩ := trodAll_cons r3
  obtain ⟨rfl, rfl, rfl⟩ := trodAll_nil r4
  obtain rfl : args = #[v0, v1, v2, v3, v4] := by cases args; simp_all
  obtain ⟨rfl, rfl⟩ := trodVars_none hV
  obtain ⟨a0, len0, cap0, rfl⟩ := okWide_slice Try.underlying23 (hval 0 23 v0 rfl rfl)
  have k0 := h0
  have lt0 : ∀ x ∈ p0, x.block < W.heap.size := by obtain ⟨m, hm⟩ := k0; exact DataW.trod_lt m _ _ _ hm
  obtain ⟨z0, w0⟩ : ∃ zs, IsRow .u8 W a0 len0 cap0 zs := by
    obtain ⟨fuel, hf⟩ := h0
    rcases open_ints Try.underlying23 Try.underlying5 (by kernel_rfl) hf with ⟨hcs, _⟩ | ⟨x, l, c, zs, hcs, _, hl, hm, hz, _, hcell, hwz⟩
    · simp [Value.cells] at hcs
      obtain ⟨rfl, rfl, rfl⟩ := hcs
      exact ⟨[], .inl ⟨rfl, rfl, rfl, rfl⟩⟩
    · simp [Value.cells] at hcs
      obtain ⟨rfl, rfl, rfl⟩ := hcs
      exact ⟨zs, .inr ⟨_, rfl, hl, hm, by simpa using hz, hcell, hwz⟩⟩
  obtain ⟨a1, len1, cap1, rfl⟩ := okWide_slice Try.underlying27 (hval 1 27 v1 rfl rfl)
  have k1 := h1
  have lt1 : ∀ x ∈ p1, x.block < W.heap.size := by obtain ⟨m, hm⟩ := k1; exact DataW.trod_lt m _ _ _ hm
  obtain ⟨z1, l1, w1⟩ : ∃ ls : List (List Int), ls.length = len1 ∧ RowsOf W a1 cap1 ls := by
    obtain ⟨fuel, hf⟩ := h1
    exact rows_open Try.underlying27 Try.underlying23 (by kernel_rfl) (by kernel_rfl) hf
  have k2 := h2
  have lt2 : ∀ x ∈ p2, x.block < W.heap.size := by obtain ⟨m, hm⟩ := k2; exact DataW.trod_lt m _ _ _ hm
  obtain ⟨a2, rfl, rfl, rfl, w2⟩ := open_int Try.underlying3 (hval 2 3 v2 rfl rfl) h2
  have k3 := h3
  have lt3 : ∀ x ∈ p3, x.block < W.heap.size := by obtain ⟨m, hm⟩ := k3; exact DataW.trod_lt m _ _ _ hm
  obtain ⟨a3, rfl, rfl, rfl, w3⟩ := open_int Try.underlying5 (hval 3 5 v3 rfl rfl) h3
  have k4 := h4
  have lt4 : ∀ x ∈ p4, x.block < W.heap.size := by obtain ⟨m, hm⟩ := k4; exact DataW.trod_lt m _ _ _ hm
  obtain ⟨a4, rfl, rfl, rfl, w4⟩ := open_int Try.underlying3 (hval 4 3 v4 rfl rfl) h4
  clear hA0 hval0
  refine (walk a0 len0 cap0 z0 a1 len1 cap1 z1 a2 a3 a4 W w0 l1 w1 w2 w3 w4).mono fun e W' ⟨he, bel⟩ => ?_
  subst he
  exact ⟨_, rfl, _, _, _, [], _, [], hW', trodAll_mk1 (shut_bool Try.underlying4 _), (trodAll_cons_mk (Below.trod laidOut (by kernel_rfl) (of_decide_eq_true (by kernel_rfl)) k0 bel lt0) (trodAll_cons_mk (Below.trod laidOut (by kernel_rfl) (of_decide_eq_true (by kernel_rfl)) k1 bel lt1) (trodAll_cons_mk (Below.trod laidOut (by kernel_rfl) (of_decide_eq_true (by kernel_rfl)) k2 bel lt2) (trodAll_cons_mk (Below.trod laidOut (by kernel_rfl) (of_decide_eq_true (by kernel_rfl)) k3 bel lt3) (trodAll_cons_mk (Below.trod laidOut (by kernel_rfl) (of_decide_eq_true (by kernel_rfl)) k4 bel lt4) trodAll_mk0))))), rfl, bel.frame _, fun h => by cases h⟩

theorem over : Rows.frameScansRow.holds Try.pinned (OpenSpec.ofChange Rows.frameScansSpec) :=
  OpenClaim.holds_of_wide 4 Try.f4 rfl rfl rfl rfl rfl rfl rfl ⟨rfl, rfl, rfl, rfl, rfl⟩ rfl rfl rfl rfl rfl (by kernel_rfl) Try.func4 (by kernel_rfl)
    (of_decide_eq_true (by kernel_rfl)) (by unfold Func.isWrapper; first | (rw [if_pos (by decide +kernel)]; kernel_rfl) | (rw [if_neg (by decide +kernel)]; exact ⟨rfl, rfl⟩))
    (fun os started H enc _ => lifted os started H enc)
theorem proved : Rows.FrameScansSaid := over
#print axioms proved
end Go.Proofs.Ytcagodcmkjdahaa.frameScans
namespace Go.Proofs.Ytcagodcmkjdahaa
/-- FrameScans, as given. -/
theorem frameScans_holds : Rows.FrameScansSaid := frameScans.proved
end Go.Proofs.Ytcagodcmkjdahaa
