/-
  What the document writes: a number, a stamp, a flag behind other bytes.
  What the document reads next: a key.
-/
import Derived.Test.YtpnjcflfnoamoaaGreatAu38
import Derived.Test.YtpnjcflfnoamoaaGreatBase
import Derived.Test.YtpnjcflfnoamoaaGreatRd
import Derived.Test.YtpnjcflfnoamoaaGreatAu19
import Derived.Lib.LazyBuf
namespace Go.Proofs.YtpnjcflfnoamoaaGreat
open Go.RowKit
set_option linter.unusedVariables false

theorem rnum14_any (a : Option Addr) (cap len : Nat) (zs : List Int) (v : Int) (w : World) (hr : Row w a zs) (hl : zs.length = len) (hm : len ≤ 1000000) (hn : a = none → len = 0 ∧ cap = 0) (h0 : 0 ≤ v) (h1 : v ≤ 18446744073709551615) :
    Calls Tryz.prog 26 #[.slice a len cap, .int .u64 v] w fun e w' => ∃ a' n c', e = .returned (.slice a' n c') ∧ n = (zs ++ Pl.putI v).length ∧ w'.ownsRow w.heap.size 5 1 (.slice a' n c') n (bs (zs ++ Pl.putI v)) ∧ Below w.heap.size w w' := by
  have HR : Hid (Row w a zs) := hr
  have HN : Hid (a = none → len = 0 ∧ cap = 0) := hn
  have HL : Hid (zs.length = len) := hl
  have HP : Hid (∀ w, Calls Tryz.prog 63 #[.int .u64 v] w fun e w' => ∃ a cap, e = .returned (.slice a (Pl.putI v).length cap) ∧ Row w' a (Pl.putI v) ∧ Below w.heap.size w w') := fun w => rput_any 9 v w (Nat.le_refl _) (Pl.fits_start v h0 h1) h0 h1
  obtain ⟨pl, hpl⟩ : ∃ pl, (Pl.putI v).length = pl := ⟨_, rfl⟩
  have p1 : 1 ≤ pl := hpl ▸ Pl.put_length_pos 9 v
  have p2 : pl ≤ 10 := hpl ▸ Pl.put_length_le 9 v
  have HPL : Hid ((Pl.putI v).length = pl) := hpl
  rw [hpl] at HP
  clear hr hn hl hpl
  go_enter Tryz.func26, Tryz.ntmps26
  go_wp2_with (first | (have hgo := HW.out; clear hgo; at_builtin; refine wpList_append_on rfl (.tmp 7) (.tmp 9) rfl w.heap.size w HW.out.2.1 HW.out.2.1.size _ len zs (Pl.putI v) rfl HW.out.1 _ _ _ rfl HW.out.2.2 HPL.out (row_some HW.out.2.2 (by rw [HPL.out]; exact p1)) HR.out.bytes (by omega) ?_; intro a6 c6 w6 o6 b6; have H6 : Hid (w6.ownsRow w.heap.size 5 1 (.slice a6 (len + pl) c6) (len + pl) (bs (zs ++ Pl.putI v)) ∧ Below w.heap.size w w6) := ⟨o6, b6⟩; clear o6 b6) | (have hgo := HO.out; clear hgo; go_at_call 63; refine (HP.out _).mono ?_; rintro e w5 ⟨a5, c5, rfl, r5, b5⟩; have HW : Hid (w5.ownsRow w.heap.size 5 1 (.slice a4 len c4) len (bs zs) ∧ Below w.heap.size w w5 ∧ Row w5 a5 (Pl.putI v)) := ⟨own_below HO.out.1 b5 (Nat.le_refl _), HO.out.2.trans (b5.mono HO.out.2.size), r5⟩; clear r5 b5 HO) | (at_builtin; refine wpList_append_new rfl (.tmp 5) (.tmp 6) rfl rfl zs _ _ _ rfl HR.out HL.out HN.out (by omega) ?_; intro a4 c4 w4 o4 b4; have HO : Hid (w4.ownsRow w.heap.size 5 1 (.slice a4 len c4) len (bs zs) ∧ Below w.heap.size w w4) := ⟨o4, b4⟩; clear o4 b4))
  go_returns
  exact ⟨a6, len + pl, c6, rfl, by rw [List.length_append, HL.out, HPL.out], H6.out.1, H6.out.2⟩
theorem rflag14_any (g : Bool) (w : World) : Calls Tryz.prog 29 #[.bool g] w fun e w' => e = .returned (.int .u8 (flagB g)) ∧ w' = w := by
  cases g with
  | true =>
    go_enter Tryz.func29, Tryz.ntmps29
    go_wp2
    go_returns
    exact ⟨rfl, rfl⟩
  | false =>
    go_enter Tryz.func29, Tryz.ntmps29
    go_wp2
    go_returns
    exact ⟨rfl, rfl⟩
theorem rstp14_any (a : Option Addr) (cap len : Nat) (zs : List Int) (t n : Int) (w : World) (hr : Row w a zs) (hl : zs.length = len) (hm : len ≤ 1000000) (hn : a = none → len = 0 ∧ cap = 0) (hn0 : 0 ≤ n ∧ n ≤ 255) :
    Calls Tryz.prog 28 #[.slice a len cap, .agg #[.int .i64 t, .int .u8 n]] w fun e w' => ∃ a' m c', e = .returned (.slice a' m c') ∧ m = (zs ++ stpB t n).length ∧ w'.ownsRow w.heap.size 5 1 (.slice a' m c') m (bs (zs ++ stpB t n)) ∧ Below w.heap.size w w' := by
  obtain ⟨V, hV⟩ : ∃ V, (if okS t then t * 256 + n else 0) = V := ⟨_, rfl⟩
  have hv : 0 ≤ V ∧ V ≤ 18446744073709551615 := by rw [← hV]; split <;> omega
  have CP : Hid (∀ w, Calls Tryz.prog 65 #[.agg #[.int .i64 t, .int .u8 n]] w fun e w' => e = .returned (.tuple #[.int .u64 V, .bool (decide (okS t))]) ∧ Below w.heap.size w w') := fun w => hV ▸ rpack6_any t n w hn0
  have CN : Hid (∀ w', Below w.heap.size w w' → Calls Tryz.prog 26 #[.slice a len cap, .int .u64 V] w' fun e w'' => ∃ a' m c', e = .returned (.slice a' m c') ∧ m = (zs ++ stpB t n).length ∧ w''.ownsRow w.heap.size 5 1 (.slice a' m c') m (bs (zs ++ stpB t n)) ∧ Below w.heap.size w w'') := fun w' hb => by
    refine (rnum14_any a cap len zs V w' (hr.below hb (Nat.le_refl _)) hl hm hn hv.1 hv.2).mono ?_
    rintro e w'' ⟨a', m, c', h1, h2, h3, h4⟩
    have e2 : zs ++ Pl.putI V = zs ++ stpB t n := by unfold stpB; rw [hV]
    rw [e2] at h2 h3
    exact ⟨a', m, c', h1, h2, ⟨h3.1, h3.2.imp id (fun ⟨g, c, cur, x1, x2, x3⟩ => ⟨g, c, cur, x1, Nat.le_trans hb.size x2, x3⟩)⟩, hb.trans (h4.mono hb.size)⟩
  have HB : Hid (∀ o w2, Below (w.alloc o).heap.size (w.alloc o) w2 → Below w.heap.size w w2) := fun o w2 h => ((Below.refl _ _).alloc (Nat.le_refl _) o).trans (h.mono (by simp))
  obtain ⟨ok, hok⟩ : ∃ ok, decide (okS t) = ok := ⟨_, rfl⟩
  rw [hok] at CP
  clear hr hl hm hn hV hv hok
  go_enter Tryz.func28, Tryz.ntmps28
  go_wp2_with (first | (have hgo := HQ.out; clear hgo; go_at_call 26; refine (CN.out _ HQ.out).mono ?_; rintro e w3 ⟨a', m, c', rfl, h2, h3, h4⟩; have H3 : Hid (m = (zs ++ stpB t n).length ∧ w3.ownsRow w.heap.size 5 1 (.slice a' m c') m (bs (zs ++ stpB t n)) ∧ Below w.heap.size w w3) := ⟨h2, h3, h4⟩; clear h2 h3 h4) | (go_at_call 65; refine (CP.out _).mono ?_; rintro e w2 ⟨rfl, b2⟩; have HQ : Hid (Below w.heap.size w w2) := HB.out _ _ b2; clear b2))
  go_returns
  exact ⟨a', m, c', rfl, H3.out.1, H3.out.2.1, H3.out.2.2⟩
end Go.Proofs.YtpnjcflfnoamoaaGreat

namespace Go.Proofs.YtpnjcflfnoamoaaGreat
open Go.RowKit
set_option linter.unusedVariables false

theorem str_cellsR {l : List Int} (h : ∀ z ∈ l, 0 ≤ z ∧ z ≤ 255) : ((strOfNums l).data.toList.map fun x => Value.int .u8 (x.toNat : Int)) = l.map (Value.int .u8) := by
  unfold strOfNums
  simp only [List.map_map]
  refine List.map_congr_left fun z hz => ?_
  have := h z hz
  simp
  omega
theorem chg_cells (q : Nat) : ∀ (vs : List Value) (o : Nat) (u : World), Chg u (u.setCells q o vs) (fun j => j = q)
  | [], _, u => Chg.refl _ _
  | v :: r, o, u => (Chg.set (X := fun j => j = q) u ⟨q, o, none⟩ v rfl).trans (chg_cells q r (o + 1) _) (fun _ _ x => x)
theorem KeyMine.chg {w w' : World} {b o : Nat} {k : List Int} {X : Foot} (h : KeyMine w b o k) (hc : Chg w w' X) (hX : ¬ X b) : KeyMine w' b o k := by
  have hl : b < w.heap.size := by
    have := h.lies.cell 0 (by omega)
    exact lt_of_cell this
  have hb := hc.block b hl hX
  exact ⟨⟨fun j hj => (cell_of_block hb _).1.trans (h.lies.cell j hj)⟩, fun i hi => (cell_of_block hb _).2.trans (h.free i hi), h.ky⟩
/-- What is copied of a text of sixteen bytes, or of none. -/
def cpyK (l : List Int) : List Int := if l = [] then zeroK else l
theorem cpy_ky {l : List Int} (h : l = [] ∨ Ky l) : Ky (cpyK l) := by
  unfold cpyK
  by_cases e : l = []
  · rw [if_pos e]; exact zeroK_ky
  · rw [if_neg e]; exact h.resolve_left e
theorem KeyMine.cpy {u : World} {q : Nat} {l : List Int} (h : KeyMine u q 0 zeroK) (hl : l = [] ∨ Ky l) : KeyMine (u.setCells q 0 ((strOfNums l).data.toList.map fun x => Value.int .u8 (x.toNat : Int))) q 0 (cpyK l) := by
  by_cases e : l = []
  · subst e; exact h
  · have hk := hl.resolve_left e
    rw [str_cellsR hk.bytes]
    unfold cpyK
    rw [if_neg e]
    exact h.store hk
theorem bytes16 {zs l r : List Int} (h : bytesP 16 zs = some (l, r)) : l.length = 16 := by
  unfold bytesP at h
  by_cases c : (zs.length : Int) < 16
  · rw [if_pos c] at h; simp at h
  · rw [if_neg c] at h
    simp only [Option.some.injEq, Prod.mk.injEq] at h
    rw [← h.1, List.length_take]
    omega
theorem Rds.cpy {o o' : Option (List Int)} {l : List Int} (h : Rds (bytesP 16) o o' l) : Rds (bytesP 16) o o' (cpyK l) := by
  cases o with
  | none => exact h
  | some zs =>
    rcases h.cases with ⟨e, rfl⟩ | ⟨r, e, rfl⟩
    · exact .no _ e
    · have h16 := bytes16 e
      have hl : l ≠ [] := fun e0 => by rw [e0] at h16; simp at h16
      unfold cpyK
      rw [if_neg hl]
      exact h
theorem bytes_ky {zs : List Int} {k k' : Nat} {b b' : Bool} {l : List Int} (h : Rds (bytesP 16) (stR zs k b) (stR zs k' b') l) (hb : ∀ z ∈ l, 0 ≤ z ∧ z ≤ 255) (h0 : b' = true → l = []) : l = [] ∨ Ky l := by
  cases b' with
  | true => exact .inl (h0 rfl)
  | false =>
    right
    cases b with
    | true => exact absurd (show stR zs k' false = none from h) (by unfold stR; simp)
    | false =>
      rcases Rds.cases (zs := zs.drop k) h with ⟨_, e⟩ | ⟨r, e, _⟩
      · exact absurd e (by unfold stR; simp)
      · exact ⟨bytes16 e, hb⟩
theorem results_key1 {fn : Func} {c : Tmp} (h : fn.results = #[.cell c 57]) (tmps : Array Value) (w : World) (b o : Nat) (k : List Int) (hp : tmps.getD c undef = .pointer (some ⟨b, o, none⟩)) (hk : Ky k) (hat : KeyAt w b o k) :
    (results fn tmps).run Tryz.prog w = .ok (kv k) w := by
  have hl := run_loadVar_mid (P := Tryz.prog) w b o 57 (k.map (Value.int .u8)) _ (hat.range hk) Tryz.underlying57 rfl (by rw [info_key, List.length_map, hk.len])
  unfold results
  rw [h]
  simp only [List.mapM_toArray, List.mapM_cons, List.mapM_nil, hp]
  simp [asAddr, hl]
theorem size5 (w : World) : (Go.sizeOf 5).run Tryz.prog w = .ok 1 w := by
  obtain ⟨i0, hi, _, h1, _⟩ := info_parts info5
  rw [run_sizeOf w hi]
  simp [cells5]
/-- The text is copied into the key. -/
theorem key_copied {v1 : World} {q : Nat} {l : List Int} (h : KeyMine v1 q 0 zeroK) (hl : l = [] ∨ Ky l) :
    ∃ v2, (Builtin.copy_ #[23, 9] 3 #[.slice (some ⟨q, 0, none⟩) 16 16, .string (strOfNums l)]).run Tryz.prog v1 = .ok (.int .i64 l.length) v2 ∧ KeyMine v2 q 0 (cpyK l) ∧ Chg v1 v2 (fun j => j = q) := by
  have hs : l.length ≤ 16 := by
    rcases hl with e | e
    · rw [e]; simp
    · rw [e.len]; omega
  have hr := run_copy_string (P := Tryz.prog) v1 23 9 3 5 q 0 16 16 (strOfNums l) Tryz.underlying23 size5 (by rw [strOfNums_size]; exact hs) (fun j hj => by rw [strOfNums_size] at hj; rw [h.lies.cell j (by omega)]; rfl) (fun j hj => by rw [strOfNums_size] at hj; exact h.free j (by omega))
  rw [strOfNums_size] at hr
  exact ⟨_, hr, h.cpy hl, chg_cells q _ 0 v1⟩
/-- What is answered. -/
theorem key_end {w u v1 v2 : World} {g : Nat} {a : Option Addr} {cap : Nat} {zs : List Int} {k k1 : Nat} {b b1 : Bool} {l : List Int} (h : Rd w g a cap zs k b) (B : Below w.heap.size w u) (R1 : Rd v1 g a cap zs k1 b1) (C1 : Chg u v1 (fun j => j = g)) (C2 : Chg v1 v2 (fun j => j = w.heap.size + 1)) (D : Rds (bytesP 16) (stR zs k b) (stR zs k1 b1) l) (vs : List Value) : Red w (v2.setCells w.heap.size 0 vs) g a cap zs k b (bytesP 16) (cpyK l) := by
  have hg : g < w.heap.size := lt_of_cell h.c0
  have hg1 : g < v1.heap.size := lt_of_cell R1.c0
  have c1 : Chg w v1 (fun j => j = g) := (Chg.of_below B _).trans C1 (fun _ _ x => x)
  have c2 : Chg w v2 (fun j => j = g) := c1.trans C2 (fun j hj e => by omega)
  have c3 : Chg w (v2.setCells w.heap.size 0 vs) (fun j => j = g) := c2.trans (chg_cells w.heap.size vs 0 v2) (fun j hj e => by omega)
  have hb : (v2.setCells w.heap.size 0 vs).heap[g]? = v1.heap[g]? := ((chg_cells w.heap.size vs 0 v2).block g (by have := C2.size; omega) (by omega)).trans (C2.block g hg1 (by omega))
  exact ⟨k1, b1, h.as c3 R1 hb, c3, D.cpy⟩
theorem rkey14_any (g : Nat) (a : Option Addr) (cap : Nat) (zs : List Int) (k : Nat) (b : Bool) (w : World) (h : Rd w g a cap zs k b) :
    Calls Tryz.prog 36 #[.pointer (some ⟨g, 0, none⟩)] w fun e w' => ∃ l : List Int, e = .returned (kv l) ∧ Ky l ∧ Red w w' g a cap zs k b (bytesP 16) l := by
  have H0 : Hid (OfR w ((w.alloc (.cells (kcs zeroK) 57)).alloc (.cells (kcs zeroK) 57)) zeroK) := OfR.made w 57
  rw [zero_cells] at H0
  have HR : Hid (Rd w g a cap zs k b) := h
  clear h
  go_enter Tryz.func36, Tryz.ntmps36
  go_wp2_with (have hgo := H0.out; clear hgo; refine wpList_store_keyU (by rfl) _ _ (by rfl) (w.heap.size + 1) 0 zeroK zeroK (by rfl) (by rfl) zeroK_ky H0.out.key ?_; intro u hu; have H1 : Hid (OfR w u zeroK) := hu ▸ H0.out.store zeroK_ky; clear hu H0)
  have HV : Hid (∀ v1 k1 b1 l, Rd v1 g a cap zs k1 b1 → Chg u v1 (fun j => j = g) → Rds (bytesP 16) (stR zs k b) (stR zs k1 b1) l → (∀ z ∈ l, 0 ≤ z ∧ z ≤ 255) → (b1 = true → l = []) → KeyMine v1 w.heap.size 0 zeroK ∧ KeyMine v1 (w.heap.size + 1) 0 zeroK ∧ (l = [] ∨ Ky l)) := fun v1 k1 b1 l R C D hb h0 => by
    have hg := lt_of_cell HR.out.c0
    exact ⟨H1.out.res.chg C (by show ¬ _ = g; simp at hg; omega), H1.out.key.chg C (by show ¬ _ = g; simp at hg; omega), bytes_ky D hb h0⟩
  have HU : Hid (Rd u g a cap zs k b ∧ Rd u.drew g a cap zs k b) := ⟨HR.out.past H1.out.below, (HR.out.past H1.out.below).drew⟩
  go_region_with (first | (go_at_call 71; (refine (rrbytes_any g a cap zs k b _ 16 (by omega) (by omega) (by first | exact HU.out.1 | exact HU.out.2)).mono ?_; rintro e v1 ⟨l, k1, b1, rfl, hl1, hl2, R1, C0, D1, hl3⟩; have C1 : Chg u v1 (fun j => j = g) := ⟨C0.os, C0.tape, C0.output, C0.size, C0.block⟩; clear C0; obtain ⟨m1, m2, m3⟩ := HV.out v1 k1 b1 l R1 C1 D1 hl1 hl3; obtain ⟨v2, hcp, K2, C2⟩ := key_copied m2 m3; have HE : Hid (∀ vs, Red w (v2.setCells w.heap.size 0 vs) g a cap zs k b (bytesP 16) (cpyK l)) := fun vs => key_end HR.out H1.out.below R1 C1 C2 D1 vs; have HM : Hid (KeyMine v2 w.heap.size 0 zeroK ∧ KeyMine v2 (w.heap.size + 1) 0 (cpyK l) ∧ Ky (cpyK l)) := ⟨m1.chg C2 (by show ¬ _ = _; omega), K2, cpy_ky m3⟩; clear R1 C1 D1 hl1 hl2 hl3 m1 m2 m3 K2 C2)))
  all_goals go_wp2_with (first | ((with_reducible show wpList _ _ _ (Oper.mk (some 9) _ _ _ _ _ :: _) _ _); refine wpList_load_keyN 9 (by rfl) (by rfl) _ (by rfl) (w.heap.size + 1) 0 (by rfl) (cpyK l) HM.out.2.2 HM.out.2.1.lies ?_) | ((with_reducible show wpList _ _ _ (Oper.mk none _ _ _ _ _ :: _) _ _); refine wpList_store_keyU (by rfl) _ _ (by rfl) w.heap.size 0 zeroK (cpyK l) (by rfl) (by rfl) HM.out.2.2 HM.out.1 ?_; intro v3 hv; have HM3 : Hid (KeyAt v3 w.heap.size 0 (cpyK l)) := hv ▸ (HM.out.1.store HM.out.2.2).lies; have HE3 : Hid (Red w v3 g a cap zs k b (bytesP 16) (cpyK l)) := hv ▸ HE.out _; clear hv))
  all_goals refine bodyPost_ret (results_key1 rfl _ _ w.heap.size 0 (cpyK l) rfl HM.out.2.2 HM3.out) rfl ?_
  all_goals exact ⟨cpyK l, rfl, HM.out.2.2, HE3.out⟩
end Go.Proofs.YtpnjcflfnoamoaaGreat

