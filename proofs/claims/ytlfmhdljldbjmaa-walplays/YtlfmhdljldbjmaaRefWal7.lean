/-
  What Add of the document's own logs answers and leaves.
-/
import Derived.Test.YtlfmhdljldbjmaaRefWal6
import Derived.Test.YtlfmhdljldbjmaaRefFrame
namespace Go.Proofs.Ytlfmhdljldbjmaa
open Go.RowKit
set_option linter.unusedVariables false

def addD (S : DS) (l : LS) (dn : Bool) (R : List (List Int)) : Int × DS × LS × Bool :=
  if doneN S l dn = true then (7, S, l, true) else if ¬ (∀ r ∈ R, r.length ≤ 8000) then (2, S, l, false) else
  if (S.append l.name (frames R)).1 = 0 then (0, (S.append l.name (frames R)).2, { l with L := l.L ++ R }, false) else ((S.append l.name (frames R)).1, (S.append l.name (frames R)).2, { l with dead := true }, true)
theorem frames_take (R : List (List Int)) (i : Nat) (r : List Int) (h : R[i]? = some r) : frames (R.take (i + 1)) = frames (R.take i) ++ frameN r := by
  rw [List.take_add_one, h]
  simp [frames]
theorem frames_len (R : List (List Int)) (h : ∀ r ∈ R, r.length ≤ 8000) : (frames R).length ≤ R.length * 8012 := by
  induction R with
  | nil => simp [frames]
  | cons r q ih =>
    have h1 := ih (fun x hx => h x (by simp [hx]))
    have h2 := h r (by simp)
    rw [frames_cons, List.length_append, frame_len]
    simp only [List.length_cons]
    omega
set_option maxHeartbeats 4000000 in
set_option maxRecDepth 4000 in
theorem radd_any (B p b : Nat) (S : DS) (l : LS) (dn : Bool) (X Z : Foot) (a : Option Addr) (cap n : Nat) (R : List (List Int)) (w : World) (h : WD w B p b S l dn X Z) (hXB : ∀ k, X k → B ≤ k) (hBw : B ≤ w.heap.size) (hRn : R.length = n) (hR : ∀ u, Below B w u → RowsOf u a cap R) (hRb : ∀ ad, a = some ad → R ≠ [] → ad.block < B) (hfew : n ≤ 1000) (hz : sizeN S.fs ≤ 1099511627776) (hroom : 0 ≤ S.room ∧ S.room ≤ 1099511627776) (hfl : S.fs.length + 1 ≤ 1000) (hLn : l.L.length + n ≤ 1000000) :
    Calls Try.prog 21 #[.pointer (some ⟨p, 0, none⟩), .slice a n cap] w fun e w' => ∃ X' Z', e = .returned (.int .i64 (addD S l dn R).1) ∧ WD w' B p b (addD S l dn R).2.1 (addD S l dn R).2.2.1 (addD S l dn R).2.2.2 X' Z' ∧ Did2 w w' X Z X' Z' := by
  have CO : Hid (Calls Try.prog 47 #[.pointer (some ⟨p, 0, none⟩)] w fun e w' => e = .returned (.bool (doneN S l dn)) ∧ WD w' B p b S l (doneN S l dn) X Z ∧ Did2 w w' X Z X Z) := roff_wd B p b S l dn X Z w h
  have HRO : Hid (∀ u, Below B w u → RowsOf u a cap R) := hR
  have HRN : Hid (R.length = n) := hRn
  have HRB : Hid (∀ ad, a = some ad → R ≠ [] → ad.block < B) := hRb
  clear hRb
  have HZB : Hid (∀ k, Z k → B ≤ k) := h.log.lo
  have HXB : Hid (∀ k, X k → B ≤ k) := hXB
  cases hdn : doneN S l dn with
  | true =>
    have e : addD S l dn R = (7, S, l, true) := by unfold addD; rw [if_pos hdn]
    rw [e]
    rw [hdn] at CO
    clear h e hdn hR hRn
    go_enter Try.func21, Try.ntmps21
    go_wp2_with (go_at_call 47; refine CO.out.mono ?_; rintro e w1 ⟨rfl, h1, h2⟩; have H1 : Hid (WD w1 B p b S l true X Z) := h1; have H2 : Hid (Did2 w w1 X Z X Z) := h2; clear h1 h2)
    go_ret
    exact ⟨X, Z, rfl, H1.out, H2.out⟩
  | false =>
    rw [hdn] at CO
    have hnm := h.log.name
    have hoff := done_off hdn
    have e0 : addD S l dn R = if ¬ (∀ r ∈ R, r.length ≤ 8000) then (2, S, l, false) else if (S.append l.name (frames R)).1 = 0 then (0, (S.append l.name (frames R)).2, { l with L := l.L ++ R }, false) else ((S.append l.name (frames R)).1, (S.append l.name (frames R)).2, { l with dead := true }, true) := by unfold addD; rw [if_neg (by rw [hdn]; simp)]
    obtain ⟨AD, hAD⟩ : ∃ AD, AD = addD S l dn R := ⟨_, rfl⟩
    rw [← hAD] at e0 ⊢
    have HAD : Hid (AD = if ¬ (∀ r ∈ R, r.length ≤ 8000) then (2, S, l, false) else if (S.append l.name (frames R)).1 = 0 then (0, (S.append l.name (frames R)).2, { l with L := l.L ++ R }, false) else ((S.append l.name (frames R)).1, (S.append l.name (frames R)).2, { l with dead := true }, true)) := e0
    clear h hdn hR hRn hAD e0
    go_enter Try.func21, Try.ntmps21
    go_wp2_with (go_at_call 47; refine CO.out.mono ?_; rintro e w1 ⟨rfl, h1, h2⟩; have H1 : Hid (WD w1 B p b S l false X Z) := h1; have H2 : Hid (Did2 w w1 X Z X Z) := h2; clear h1 h2)
    have HB1 : Hid (Below B w w1) := H2.out.chg.below hBw (fun k x => x.elim (HXB.out k) (HZB.out k))
    go_loopw [5, 6] (fun bv iv wr => ∃ (i m : Nat) (ax : Option Addr) (cx : Nat), iv = .int .i64 i ∧ bv = .slice ax m cx ∧ i ≤ n ∧ m ≤ i * 8012 ∧ Hid (wr.ownsRow w1.heap.size 5 1 (.slice ax m cx) m (bs (frames (R.take i)))) ∧ Hid (Below w1.heap.size w1 wr) ∧ Hid (∀ r ∈ R.take i, r.length ≤ 8000 ∧ By r)) (fun _ iv _ => n - (intOf iv).toNat)
    case atStart => exact ⟨0, 0, none, 0, rfl, rfl, Nat.zero_le _, Nat.zero_le _, World.ownsRow_nil _ _ _ _, Below.refl _ _, fun r hr => by simp at hr⟩
    case round =>
      obtain ⟨i, m, ax, cx, rfl, rfl, hi, hm, HO, HBR, HTK⟩ := hrel
      by_cases hlt : i < n
      · have hil : i < R.length := by rw [HRN.out]; exact hlt
        obtain ⟨rb, ro, x, xc, hra, hcl, hrx, hnx⟩ := ((HRO.out wr (HB1.out.trans (HBR.out.mono (Nat.le_trans hBw HB1.out.size)))).at hil)
        subst hra
        obtain ⟨RS, hRS⟩ : ∃ RS, RS = R.getD i [] := ⟨_, rfl⟩
        rw [← hRS] at hcl hrx hnx
        have HRS : Hid (R[i]? = some RS) := by show _ = _; rw [hRS]; simp [List.getD, hil]
        obtain ⟨rn, hrn⟩ : ∃ rn, rn = RS.length := ⟨_, rfl⟩
        have HRL : Hid (RS.length = rn) := hrn.symm
        have HRX : Hid (Row wr x RS) := hrx
        have HNX : Hid (x = none → rn = 0 ∧ xc = 0) := fun e => by have := hnx e; exact ⟨by omega, this.2⟩
        rw [← hrn] at hcl
        clear hrx hnx hRS hrn
        by_cases hbig : 8000 < rn
        · have b1 : decide ((8000 : Int) < (rn : Int)) = true := decide_eq_true (by omega)
          have HE : Hid (AD = (2, S, l, false)) := by
            show _ = _
            rw [HAD.out, if_pos (fun hall => by have := hall RS (List.mem_of_getElem? HRS.out); rw [HRL.out] at this; omega)]
          go_wp2
          go_ret
          rw [HE.out]
          have r := H1.out.past HBR.out
          exact ⟨X, Z, rfl, r.1, H2.out.trans r.2⟩
        · have b1 : decide ((8000 : Int) < (rn : Int)) = false := decide_eq_false (by omega)
          have CF : Hid (Calls Try.prog 48 #[.slice x rn xc] wr fun e w' => ∃ ay cy, e = .returned (.slice ay (12 + rn) cy) ∧ w'.ownsRow wr.heap.size 5 1 (.slice ay (12 + rn) cy) (12 + rn) (bs (frameN RS)) ∧ Below wr.heap.size wr w') := rframe_any x xc RS rn wr HRL.out HRX.out HNX.out (by omega)
          have HFB : Hid (By (frameN RS)) := frame_by RS HRX.out.bytes
          have HFL : Hid ((frameN RS).length = 12 + rn) := by show _ = _; rw [frame_len, HRL.out]
          have HXS : Hid (∀ z ∈ frames (R.take i), 0 ≤ z ∧ z ≤ 255) := frames_by _ (fun r hr => (HTK.out r hr).2)
          go_wp2_with (first | (go_at_call 48; refine CF.out.mono ?_; rintro e w3 ⟨ay, cy, rfl, h1, h2⟩; have O3 : Hid (w3.ownsRow wr.heap.size 5 1 (.slice ay (12 + rn) cy) (12 + rn) (bs (frameN RS))) := h1; have B3 : Hid (Below wr.heap.size wr w3) := h2; clear h1 h2) | (at_builtin; refine wpList_append_on rfl (.tmp 23) (.tmp 28) rfl w1.heap.size w1 (HBR.out.trans (B3.out.mono HBR.out.size)) (Nat.le_trans HBR.out.size B3.out.size) _ m (frames (R.take i)) (frameN RS) rfl (own_below HO.out B3.out (Nat.le_refl _)) _ _ _ rfl (own_row O3.out HFB.out) HFL.out (own_nil O3.out) HXS.out (by omega) ?_; intro a4 c4 w4 h1 h2; have O4 : Hid (w4.ownsRow w1.heap.size 5 1 (.slice a4 (m + (12 + rn)) c4) (m + (12 + rn)) (bs (frames (R.take i) ++ frameN RS))) := h1; have B4 : Hid (Below w1.heap.size w1 w4) := h2; clear h1 h2))
          go_roundw
          case rel =>
            refine ⟨i + 1, m + (12 + rn), a4, c4, by simp, rfl, by omega, by omega, ?_, B4.out, fun r hr => ?_⟩
            · rw [frames_take R i RS HRS.out]; exact O4.out
            · rw [List.take_add_one, HRS.out] at hr
              rcases List.mem_append.1 hr with hr | hr
              · exact HTK.out r hr
              · simp at hr
                subst hr
                exact ⟨by rw [HRL.out]; omega, HRX.out.bytes⟩
          case measure => simp [intOf]; omega
      · have hin : i = n := by omega
        have HTA : Hid (R.take i = R) := by show _ = _; rw [hin, ← HRN.out, List.take_length]
        have hml : m ≤ n * 8012 := by rw [← hin]; exact hm
        rw [HTA.out] at HO HTK
        have HALL : Hid (∀ r ∈ R, r.length ≤ 8000 ∧ By r) := HTK.out
        have HFM : Hid ((frames R).length = m) := by show _ = _; have := HO.out.1; rw [bs_len] at this; omega
        have HFB : Hid (By (frames R)) := frames_by _ (fun r hr => (HALL.out r hr).2)
        have bN : decide ((i : Int) < (n : Int)) = false := decide_eq_false (by omega)
        obtain ⟨E, hE⟩ : ∃ E, E = (S.append l.name (frames R)).1 := ⟨_, rfl⟩
        obtain ⟨S', hS'⟩ : ∃ S', S' = (S.append l.name (frames R)).2 := ⟨_, rfl⟩
        have HAD2 : Hid (AD = if E = 0 then (0, S', { l with L := l.L ++ R }, false) else (E, S', { l with dead := true }, true)) := by
          show _ = _
          rw [HAD.out, if_neg (fun hn => hn (fun r hr => (HALL.out r hr).1)), hE, hS']
        have hnl : l.name.length ≤ 1000000 := by have := hnm; unfold mayN at this; simp at this; omega
        have HWR : Hid (WD wr B p b S l false X Z ∧ Did2 w1 wr X Z X Z) := H1.out.past HBR.out
        have CP : Hid (∀ u, Below wr.heap.size wr u → Calls Try.prog 27 #[.pointer (some ⟨b, 0, none⟩), .string (strOfNums l.name), .slice ax m cx] u fun e w' => e = .returned (.int .i64 E) ∧ ∃ X', WD w' B p b S' l false X' Z ∧ Did2 wr w' X Z X' Z) := fun u hb => by
          have hu := HWR.out.1.past hb
          refine (rdappend_any b S X l.name (frames R) ax cx m u hu.1.disk (may_bytes _ hnm) hnl hz hroom hfl HFM.out ((own_row HO.out HFB.out).below hb (Nat.le_refl _)) (own_nil HO.out) (by omega)).mono ?_
          rintro e w' ⟨X', rfl, h1, h2⟩
          rw [← hE]
          rw [← hS'] at h1
          have r := hu.1.disk_step h1 h2
          exact ⟨rfl, X', r.1, hu.2.trans r.2⟩
        have HK : Hid (∀ u S2 X2, WD u B p b S2 l false X2 Z → u.cell? ⟨p, 0, none⟩ = some (.pointer (some ⟨b, 0, none⟩)) ∧ u.cell? ⟨p, 1, none⟩ = some (.string (strOfNums l.name))) := fun u S2 X2 hu => ⟨hu.log.c0, hu.log.c1⟩
        have HKS : Hid (∀ u, Below wr.heap.size wr u → u.cell? ⟨p, 0, none⟩ = some (.pointer (some ⟨b, 0, none⟩)) ∧ u.cell? ⟨p, 1, none⟩ = some (.string (strOfNums l.name))) := fun u hb => HK.out u S X (HWR.out.1.past hb).1
        clear hin hE hS' HAD
        go_wp2
        go_region_held3 (fun u => u.cell? ⟨p, 0, none⟩ = some (.pointer (some ⟨b, 0, none⟩)) ∧ u.cell? ⟨p, 1, none⟩ = some (.string (strOfNums l.name))) (first | exact HK.out _ _ _ H3.out | exact HKS.out _ (Below.refl _ _).drew) (first | (go_at_call 27; refine (CP.out _ (Below.refl _ _).drew).mono ?_; rintro e w3 ⟨rfl, X3, h3, h4⟩; have H3 : Hid (WD w3 B p b S' l false X3 Z) := h3; have H4 : Hid (Did2 w w3 X Z X3 Z) := H2.out.trans (HWR.out.2.trans h4); clear h3 h4))
        by_cases hE0 : E = 0
        · have bE : (E != 0) = false := by simp [hE0]
          have HE : Hid (AD = (0, S', { l with L := l.L ++ R }, false)) := by show _ = _; rw [HAD2.out, if_pos hE0]
          clear hE0
          go_wp2
          go_loopw [8] (fun iv wq => ∃ (i2 : Nat) (X2 Z2 : Foot), iv = .int .i64 i2 ∧ i2 ≤ n ∧ Hid (WD wq B p b S' { l with L := l.L ++ R.take i2 } false X2 Z2 ∧ Did2 w wq X Z X2 Z2)) (fun iv _ => n - (intOf iv).toNat)
          case atStart => exact ⟨0, X3, Z, rfl, Nat.zero_le _, by rw [List.take_zero, List.append_nil]; exact H3.out, H4.out⟩
          case round =>
            obtain ⟨i2, X2, Z2, rfl, hi2, HW2⟩ := hrel
            by_cases hlt2 : i2 < n
            · obtain ⟨U, rfl⟩ : ∃ U : World, U = wr := ⟨wr, rfl⟩
              have hBU : B ≤ U.heap.size := Nat.le_trans hBw HW2.out.2.chg.size
              have HBW : Hid (Below B w U) := HW2.out.2.chg.below hBw (fun k x => x.elim (HXB.out k) (HZB.out k))
              have hil : i2 < R.length := by rw [HRN.out]; exact hlt2
              obtain ⟨rb, ro, x, xc, hra, hcl, hrx, hnx⟩ := (HRO.out U HBW.out).at hil
              have hrbB : rb < B := HRB.out _ hra (fun e => by rw [e] at hil; simp at hil)
              subst hra
              obtain ⟨RS, hRS⟩ : ∃ RS, RS = R.getD i2 [] := ⟨_, rfl⟩
              rw [← hRS] at hcl hrx hnx
              have HRS : Hid (R[i2]? = some RS) := by show _ = _; rw [hRS]; simp [List.getD, hil]
              obtain ⟨rn, hrn⟩ : ∃ rn, rn = RS.length := ⟨_, rfl⟩
              have HRL : Hid (RS.length = rn) := hrn.symm
              have HNX : Hid (x = none → rn = 0 ∧ xc = 0) := fun e => by have := hnx e; exact ⟨by omega, this.2⟩
              have hrn8 : rn ≤ 8000 := by rw [hrn]; exact (HALL.out RS (List.mem_of_getElem? HRS.out)).1
              have HBR2 : Hid (∀ z ∈ RS, 0 ≤ z ∧ z ≤ 255) := hrx.bytes
              have RR : Hid (∀ u, Below U.heap.size U u → Row u x RS) := fun u hb => hrx.below hb (Nat.le_refl _)
              rw [← hrn] at hcl
              obtain ⟨a4, c4, k4, rz⟩ := HW2.out.1.log.c4
              obtain ⟨NL, hNL⟩ : ∃ NL, NL = l.L.length := ⟨_, rfl⟩
              have HLL : Hid ((l.L ++ R.take i2).length = NL + i2) := by show _ = _; rw [List.length_append, List.length_take, hNL, HRN.out]; omega
              rw [← hNL] at hLn
              rw [show ({ l with L := l.L ++ R.take i2 } : LS).L.length = NL + i2 from HLL.out] at k4 rz
              have RZ : Hid (RecZ U B (.slice a4 (NL + i2) c4) (l.L ++ R.take i2) Z2 p) := rz
              have ZLT : Hid (∀ k, Z2 k → k < U.heap.size) := HW2.out.1.log.lt
              have hpU : p < U.heap.size := ZLT.out p HW2.out.1.log.own
              obtain ⟨G, hG⟩ : ∃ G : Foot, G = fun k => (Value.slice a4 (NL + i2) c4).ownBlock = some k := ⟨_, rfl⟩
              have HGZ : Hid (∀ k, G k → Z2 k ∧ k ≠ p) := fun k e => by rw [hG] at e; obtain ⟨vs, _, h2, _⟩ := RZ.out.own; exact h2 k e
              have HGO : Hid (∀ k, (Value.slice a4 (NL + i2) c4).ownBlock = some k → G k) := fun k e => by rw [hG]; exact e
              have HKU : Hid (∀ u, Chg U u G → u.cell? ⟨p, 4, none⟩ = some (.slice a4 (NL + i2) c4) ∧ u.cell? ⟨rb, ro + i2, none⟩ = some (.slice x rn xc) ∧ u.frozen? ⟨p, 4, none⟩ = false) := fun u hu => by
                have e1 := hu.block p hpU (fun e => (HGZ.out p e).2 rfl)
                have e2 := hu.block rb (by omega) (fun e => by have := HW2.out.1.log.lo rb (HGZ.out rb e).1; omega)
                exact ⟨(cell_kept e1 _).trans k4, (cell_kept e2 _).trans hcl, (frozen_kept e1 _).trans (HW2.out.1.log.free 4)⟩
              have NEWB : Hid (∀ (w5 : World) (a5 : Option Addr) (c5 : Nat), w5.ownsRow U.heap.size 5 1 (.slice a5 rn c5) rn (bs RS) → ∀ ad, a5 = some ad → (Z2 ad.block ∨ U.heap.size ≤ ad.block ∧ ad.block < w5.heap.size + 2) ∧ ad.block ≠ p) := fun w5 a5 c5 ho ad e => by
                rcases ho.2 with ⟨e1, _⟩ | ⟨q, _, _, e1, hq, hqq, _⟩
                · rw [e] at e1; cases e1
                · rw [e] at e1
                  injection e1 with e2
                  injection e2 with e2
                  subst e2
                  have := (Array.getElem?_eq_some_iff.1 hqq).1
                  exact ⟨.inr ⟨hq, by simp; omega⟩, by simp; omega⟩
              have HEND : Hid (∀ (w5 w6 : World) (a6 : Option Addr) (c6 : Nat), Chg U w6 G → RecZ w6 B (.slice a6 (NL + i2 + 1) c6) (l.L ++ R.take i2 ++ [RS]) (fun k => Z2 k ∨ U.heap.size ≤ k ∧ k < w5.heap.size + 2) p → ∃ Z3, WD (w6.setCell ⟨p, 4, none⟩ (.slice a6 (NL + i2 + 1) c6)) B p b S' { l with L := l.L ++ R.take (i2 + 1) } false X2 Z3 ∧ Did2 w (w6.setCell ⟨p, 4, none⟩ (.slice a6 (NL + i2 + 1) c6)) X Z X2 Z3) := fun w5 w6 a6 c6 hc hr => by
                have e1 : l.L ++ R.take (i2 + 1) = l.L ++ R.take i2 ++ [RS] := by rw [List.take_add_one, HRS.out]; simp
                have hr2 := hr.here (Z' := fun k => (Z2 k ∨ U.heap.size ≤ k) ∧ k < w6.heap.size) (fun k z hk => ⟨z.imp id (fun e => e.1), hk⟩)
                have hl2 := HW2.out.1.log.more (hc.mono (fun k _ e => HGZ.out k e)) HLL.out hr2 (fun k z => ⟨.inl z, Nat.lt_of_lt_of_le (ZLT.out k z) hc.size⟩) (fun k z => z.2) (fun k z => z.1.elim (HW2.out.1.log.lo k) (fun e => Nat.le_trans hBU e)) (by omega)
                have hd : Did U (w6.setCell ⟨p, 4, none⟩ (.slice a6 (NL + i2 + 1) c6)) Z2 (fun k => (Z2 k ∨ U.heap.size ≤ k) ∧ k < w6.heap.size) := ⟨(hc.mono (fun k _ e => (HGZ.out k e).1)).trans (Chg.set w6 ⟨p, 4, none⟩ _ HW2.out.1.log.own) (fun _ _ x => x), fun k z => ⟨z.1, by rw [World.size_setCell]; exact z.2⟩⟩
                have r := HW2.out.1.log_step hl2 hd
                rw [e1]
                exact ⟨_, r.1, HW2.out.2.trans r.2⟩
              clear hrx hnx hRS hrn rz hNL hG
              have q0 := HKU.out U (Chg.refl _ _)
              go_wp2
              refine wp_region_noPanic ?_
              refine region_till 15 (fun u => Chg U u G) (by kernel_rfl) ?_ (fun hHeld => ?_)
              · exact (Chg.refl _ _).drew
              refine till_take (i := 0) (v := ?_) 0 (by kernel_rfl) (Or.inl rfl) (by kernel_rfl) rfl (by kernel_rfl) (by kernel_rfl) (by kernel_rfl) (fun _ _ _ h => h) (Or.inl ⟨by rfl, ?_⟩) hHeld ?_
              rotate_left
              · intro u hSu
                (go_simp) <;> (with_reducible rfl)
              change wpTill _ _ _ _ _ _ _ _ (Act.put _ (some 52) _) _
              simp only [Act.put, List.setIfInBounds_toArray, List.set_cons_zero, List.set_cons_succ]
              refine till_take (i := 1) (v := ?_) 1 (by kernel_rfl) (Or.inl rfl) (by kernel_rfl) rfl (by kernel_rfl) (by kernel_rfl) (by kernel_rfl) (fun _ _ _ h => h) (Or.inl ⟨by rfl, ?_⟩) hHeld ?_
              rotate_left
              · intro u hSu
                (go_simp) <;> (with_reducible rfl)
              change wpTill _ _ _ _ _ _ _ _ (Act.put _ (some 53) _) _
              simp only [Act.put, List.setIfInBounds_toArray, List.set_cons_zero, List.set_cons_succ]
              refine till_take (i := 2) (v := ?_) 2 (by kernel_rfl) (Or.inl rfl) (by kernel_rfl) rfl (by kernel_rfl) (by kernel_rfl) (by kernel_rfl) (fun _ _ _ h => h) (Or.inl ⟨by rfl, ?_⟩) hHeld ?_
              rotate_left
              · intro u hSu
                (go_simp) <;> (with_reducible rfl)
              change wpTill _ _ _ _ _ _ _ _ (Act.put _ (some 54) _) _
              simp only [Act.put, List.setIfInBounds_toArray, List.set_cons_zero, List.set_cons_succ]
              refine till_take (i := 3) (v := ?_) 3 (by kernel_rfl) (Or.inl rfl) (by kernel_rfl) rfl (by kernel_rfl) (by kernel_rfl) (by kernel_rfl) (fun _ _ _ h => h) (Or.inl ⟨by rfl, ?_⟩) hHeld ?_
              rotate_left
              · intro u hSu
                (go_simp) <;> (with_reducible rfl)
              change wpTill _ _ _ _ _ _ _ _ (Act.put _ (some 55) _) _
              simp only [Act.put, List.setIfInBounds_toArray, List.set_cons_zero, List.set_cons_succ]
              refine till_take (i := 4) (v := ?_) 4 (by kernel_rfl) (Or.inl rfl) (by kernel_rfl) rfl (by kernel_rfl) (by kernel_rfl) (by kernel_rfl) (fun _ _ _ h => h) (Or.inl ⟨by rfl, ?_⟩) hHeld ?_
              rotate_left
              · intro u hSu
                obtain ⟨q1, q2, q3⟩ := HKU.out u hSu
                (go_simp) <;> (with_reducible rfl)
              change wpTill _ _ _ _ _ _ _ _ (Act.put _ (some 56) _) _
              simp only [Act.put, List.setIfInBounds_toArray, List.set_cons_zero, List.set_cons_succ]
              refine till_take (i := 6) (v := ?_) 6 (by kernel_rfl) (Or.inl rfl) (by kernel_rfl) rfl (by kernel_rfl) (by kernel_rfl) (by kernel_rfl) (fun _ _ _ h => h) (Or.inl ⟨by rfl, ?_⟩) hHeld ?_
              rotate_left
              · intro u hSu
                (go_simp) <;> (with_reducible rfl)
              change wpTill _ _ _ _ _ _ _ _ (Act.put _ (some 58) _) _
              simp only [Act.put, List.setIfInBounds_toArray, List.set_cons_zero, List.set_cons_succ]
              refine till_take (i := 7) (v := ?_) 7 (by kernel_rfl) (Or.inl rfl) (by kernel_rfl) rfl (by kernel_rfl) (by kernel_rfl) (by kernel_rfl) (fun _ _ _ h => h) (Or.inl ⟨by rfl, ?_⟩) hHeld ?_
              rotate_left
              · intro u hSu
                (go_simp) <;> (with_reducible rfl)
              change wpTill _ _ _ _ _ _ _ _ (Act.put _ (some 59) _) _
              simp only [Act.put, List.setIfInBounds_toArray, List.set_cons_zero, List.set_cons_succ]
              refine till_take (i := 8) (v := ?_) 8 (by kernel_rfl) (Or.inl rfl) (by kernel_rfl) rfl (by kernel_rfl) (by kernel_rfl) (by kernel_rfl) (fun _ _ _ h => h) (Or.inl ⟨by rfl, ?_⟩) hHeld ?_
              rotate_left
              · intro u hSu
                (go_simp) <;> (with_reducible rfl)
              change wpTill _ _ _ _ _ _ _ _ (Act.put _ (some 60) _) _
              simp only [Act.put, List.setIfInBounds_toArray, List.set_cons_zero, List.set_cons_succ]
              refine till_take (i := 9) (v := ?_) 9 (by kernel_rfl) (Or.inl rfl) (by kernel_rfl) rfl (by kernel_rfl) (by kernel_rfl) (by kernel_rfl) (fun _ _ _ h => h) (Or.inl ⟨by rfl, ?_⟩) hHeld ?_
              rotate_left
              · intro u hSu
                obtain ⟨q1, q2, q3⟩ := HKU.out u hSu
                (go_simp) <;> (with_reducible rfl)
              change wpTill _ _ _ _ _ _ _ _ (Act.put _ (some 61) _) _
              simp only [Act.put, List.setIfInBounds_toArray, List.set_cons_zero, List.set_cons_succ]
              refine till_ready (rs := [5]) (by kernel_rfl) (by simp) ?_
              refine AllTill.cons rfl (fun K hK => ?_) AllTill.nil
              go_simp
              refine hK.out _ _ ?_ (fun hHeld2 => ?_)
              · exact hHeld.alloc _
              clear hK K hHeld
              have hHeld := hHeld2
              clear hHeld2
              refine till_ready (rs := [10]) (by kernel_rfl) (by simp) ?_
              refine AllTill.cons rfl (fun K hK => ?_) AllTill.nil
              refine step_append_first rfl (.tmp 57) (.tmp 61) rfl U.heap.size (.slice (some ⟨U.heap.size, 0, none⟩) 0 0) RS rfl (World.ownsRow_made U #[] 0 (Nat.le_refl _) (by decide) rfl).drew _ rn _ rfl (RR.out _ ((Below.refl _ _).alloc (Nat.le_refl _) _).drew) HRL.out HNX.out (by omega) (by simp) U ((Below.refl _ _).alloc (Nat.le_refl _) _).drew ?_
              intro a5 c5 w5 h5 hb5
              have O5 : Hid (w5.ownsRow U.heap.size 5 1 (.slice a5 rn c5) rn (bs RS)) := h5
              have B5 : Hid (Below U.heap.size U w5) := hb5
              have hs5 : U.heap.size ≤ w5.heap.size := hb5.size
              clear h5 hb5
              refine hK.out _ _ ?_ (fun hHeld2 => ?_)
              · exact Chg.of_below B5.out _
              clear hK K hHeld
              have hHeld := hHeld2
              clear hHeld2
              change wpTill _ _ _ _ _ _ _ _ (Act.put _ (some 62) _) _
              simp only [Act.put, List.setIfInBounds_toArray, List.set_cons_zero, List.set_cons_succ]
              refine till_ready (rs := [11]) (by kernel_rfl) (by simp) ?_
              refine AllTill.cons rfl (fun K hK => ?_) AllTill.nil
              go_simp
              refine hK.out _ _ ?_ (fun hHeld2 => ?_)
              · exact hHeld.alloc _
              clear hK K hHeld
              have hHeld := hHeld2
              clear hHeld2
              refine till_ready (rs := [12]) (by kernel_rfl) (by simp) ?_
              refine AllTill.cons rfl (fun K hK => ?_) AllTill.nil
              refine step_append_recZ rfl (.tmp 56) (.tmp 63) rfl B p (NL + i2) (.slice a4 (NL + i2) c4) (l.L ++ R.take i2) Z2 (fun k => Z2 k ∨ U.heap.size ≤ k ∧ k < w5.heap.size + 2) rfl ((RZ.out.kept (fun k z _ => B5.out.block k (ZLT.out k z)) (fun _ x => x)).kept (fun k z _ => Below.heap_alloc _ _ k (Nat.lt_of_lt_of_le (ZLT.out k z) B5.out.size)) (fun _ x => x)) HLL.out _ rfl a5 c5 RS rn HRL.out (World.cell?_alloc_new _ _ _ _) (((NewRow.of_own O5.out HBR2.out).mono hBU).below ((Below.refl _ _).alloc (Nat.le_refl _) _) (Nat.le_refl _)) (by omega) (by simp; omega) (by simp; omega) (fun k z => .inl z) (.inr ⟨by simp; omega, by simp⟩) (fun ad e => NEWB.out w5 a5 c5 O5.out ad e) ?_
              intro a6 c6 w6 h6 hg6
              have Z6 : Hid (RecZ w6 B (.slice a6 (NL + i2 + 1) c6) (l.L ++ R.take i2 ++ [RS]) (fun k => Z2 k ∨ U.heap.size ≤ k ∧ k < w5.heap.size + 2) p) := h6
              have C6 : Hid (Chg U w6 G) := (Chg.of_below (B5.out.alloc B5.out.size _) G).trans (Chg.of_grown hg6 (X := G) (fun k e => HGO.out k e)) (fun _ _ x => x)
              have S6 : Hid (w5.heap.size + 1 ≤ w6.heap.size) := by have := hg6.size; simp at this; exact this
              clear h6 hg6
              refine hK.out _ _ ?_ (fun hHeld2 => ?_)
              · exact C6.out
              clear hK K hHeld
              have hHeld := hHeld2
              clear hHeld2
              change wpTill _ _ _ _ _ _ _ _ (Act.put _ (some 64) _) _
              simp only [Act.put, List.setIfInBounds_toArray, List.set_cons_zero, List.set_cons_succ]
              refine till_take (i := 13) (v := ?_) 14 (by kernel_rfl) (Or.inr (by kernel_rfl)) (by kernel_rfl) rfl (by kernel_rfl) (by kernel_rfl) (by kernel_rfl) (fun _ _ _ h => h) (Or.inl ⟨by rfl, ?_⟩) hHeld ?_
              rotate_left
              · intro u hSu
                (go_simp) <;> (with_reducible rfl)
              change wpTill _ _ _ _ _ _ _ _ (Act.put _ (some 65) _) _
              simp only [Act.put, List.setIfInBounds_toArray, List.set_cons_zero, List.set_cons_succ]
              refine till_take (i := 14) (v := ?_) 14 (by kernel_rfl) (Or.inl rfl) (by kernel_rfl) rfl (by kernel_rfl) (by kernel_rfl) (by kernel_rfl) (fun _ _ _ h => h) (Or.inl ⟨by rfl, ?_⟩) hHeld ?_
              rotate_left
              · intro u hSu
                (go_simp) <;> (with_reducible rfl)
              change wpTill _ _ _ _ _ _ _ _ (Act.put _ (some 66) _) _
              simp only [Act.put, List.setIfInBounds_toArray, List.set_cons_zero, List.set_cons_succ]
              refine till_last (by kernel_rfl) (by kernel_rfl) rfl (fun K hK => ?_)
              obtain ⟨q1, q2, q3⟩ := HKU.out w6 C6.out
              go_simp
              refine hK.out _ _ ?_
              refine NoPanic.normal ?_
              clear hK K hHeld q1 q2 q3
              go_wp2
              go_roundw
              case rel =>
                obtain ⟨Z3, r1, r2⟩ := HEND.out w5 w6 a6 c6 C6.out Z6.out
                exact ⟨i2 + 1, X2, Z3, by simp, by omega, r1, r2⟩
              case measure => simp [intOf]; omega
            · have hin2 : i2 = n := by omega
              have HEE : Hid (WD wr B p b S' { l with L := l.L ++ R } false X2 Z2 ∧ Did2 w wr X Z X2 Z2) := by have := HW2.out; rw [show R.take i2 = R from by rw [hin2, ← HRN.out, List.take_length]] at this; exact this
              have bN2 : decide ((i2 : Int) < (n : Int)) = false := decide_eq_false (by omega)
              clear hin2
              go_wp2
              go_ret
              rw [HE.out]
              exact ⟨X2, Z2, rfl, HEE.out.1, HEE.out.2⟩
        · have bE : (E != 0) = true := by simpa using hE0
          have HE : Hid (AD = (E, S', { l with dead := true }, true)) := by show _ = _; rw [HAD2.out, if_neg hE0]
          have k3 := H3.out.log.c3
          have f3 := H3.out.log.free 3
          clear hE0
          go_wp2
          go_ret
          rw [HE.out]
          have hl' : WalR (w3.setCell ⟨p, 3, none⟩ (.bool true)) B p b { l with dead := true } true Z := by
            have h0 := H3.out.log.nowdone true
            exact ⟨h0.own, h0.lt, h0.lo, h0.c0, h0.c1, h0.c2, h0.c3, h0.c4, h0.c5, h0.free, h0.few, h0.name⟩
          have r := H3.out.log_step hl' (Did.same (Chg.set w3 ⟨p, 3, none⟩ _ H3.out.log.own) H3.out.log.lt)
          exact ⟨X3, Z, rfl, r.1, H4.out.trans r.2⟩
end Go.Proofs.Ytlfmhdljldbjmaa
