/-
  What the document's own frames (hourglassref1: w32, at32, Frame) answer.
-/
import Derived.Test.YtlfmhdljldbjmaaRefCrc
import Derived.Test.YtlfmhdljldbjmaaBase
import Derived.Deep.QuietTactic
import Derived.BigQuiet
namespace Go.Proofs.Ytlfmhdljldbjmaa
open Go.RowKit
set_option linter.unusedVariables false

/-- A literal's bytes that were just laid. -/
theorem row_four (w : World) (C : Array Value) (zs : List Int) (hC : C = (bs zs).toArray) (hb : By zs) : Row (w.alloc (.cells C 5)) (some ⟨w.heap.size, 0, none⟩) zs := by
  refine ⟨hb, .inr ⟨_, _, rfl, fun j hj => ?_⟩⟩
  rw [Nat.zero_add, World.cell?_alloc_new, hC]
  simp [bs, hj]
theorem le32_int (v : Nat) (h : v < 4294967296) : le32 v = [(v : Int) % 256, (v : Int) / 256 % 256, (v : Int) / 65536 % 256, (v : Int) / 16777216] := by
  simp [le32]
  omega

theorem w32_any (a : Option Addr) (cap : Nat) (zs : List Int) (v : Nat) (n : Nat) (w : World) (hn : zs.length = n) (hrow : Row w a zs) (hnil : a = none → n = 0 ∧ cap = 0) (hmax : n ≤ 140737488351232) (hv : v < 4294967296) :
    Calls Try.prog 62 #[.slice a n cap, .int .u32 v] w fun e w' => ∃ ax cx, e = .returned (.slice ax (n + 4) cx) ∧ w'.ownsRow w.heap.size 5 1 (.slice ax (n + 4) cx) (n + 4) (bs (zs ++ le32 v)) ∧ Below w.heap.size w w' := by
  have HN : Hid (zs.length = n) := hn
  have HR : Hid (Row w a zs) := hrow
  have HNIL : Hid (a = none → n = 0 ∧ cap = 0) := hnil
  clear hn hrow hnil
  go_enter Try.func62, Try.ntmps62
  go_wp2_with (first | (at_builtin; refine wpList_append_new rfl (.tmp 5) (.tmp 6) rfl rfl zs _ _ _ rfl HR.out HN.out HNIL.out (by omega) ?_; intro b3 c3 w3 hown3 hb3; have HOWN3 : Hid (w3.ownsRow w.heap.size 5 1 (.slice b3 n c3) n (bs zs)) := hown3; have HB3 : Hid (Below w.heap.size w w3) := hb3; clear hown3 hb3) | (at_builtin; refine wpList_append_on rfl (.tmp 7) (.tmp 19) rfl w.heap.size w (HB3.out.alloc HB3.out.size _) (by simp; exact Nat.le_trans HB3.out.size (Nat.le_succ _)) _ _ zs (le32 v) rfl (HOWN3.out.alloc _) _ _ _ rfl (row_four w3 _ (le32 v) (by rw [le32_int v hv]; rfl) (le32_by v)) rfl (fun h => by cases h) HR.out.bytes (by omega) ?_; intro b4 c4 w4 hown4 hb4; have HOWN4 : Hid _ := hown4; have HB4 : Hid _ := hb4; clear hown4 hb4))
  go_ret
  exact ⟨b4, c4, rfl, HOWN4.out, HB4.out⟩

theorem or32 (a b : Nat) (n : Nat) (ha : a < 2 ^ n) (hb : b * 2 ^ n < 4294967296) (hn : 2 ^ n ≤ 4294967296) : bits BinOp.or IntKind.u32 (a : Int) ((b * 2 ^ n : Nat) : Int) = ((a + 2 ^ n * b : Nat) : Int) := by
  rw [u32_or_nat _ _ (by omega) hb, Nat.or_comm, ← Nat.shiftLeft_eq, ← Nat.shiftLeft_add_eq_or_of_lt ha b, Nat.shiftLeft_eq, Nat.mul_comm, Nat.add_comm]
theorem join32 (x0 x1 x2 x3 : Int) (b0 : 0 ≤ x0 ∧ x0 ≤ 255) (b1 : 0 ≤ x1 ∧ x1 ≤ 255) (b2 : 0 ≤ x2 ∧ x2 ≤ 255) (b3 : 0 ≤ x3 ∧ x3 ≤ 255) :
    bits BinOp.or IntKind.u32 (bits BinOp.or IntKind.u32 (bits BinOp.or IntKind.u32 x0 (x1 * 256)) (x2 * 65536)) (x3 * 16777216) = ((x0.toNat + 256 * x1.toNat + 65536 * x2.toNat + 16777216 * x3.toNat : Nat) : Int) := by
  obtain ⟨y0, rfl⟩ : ∃ y : Nat, x0 = y := ⟨x0.toNat, by omega⟩
  obtain ⟨y1, rfl⟩ : ∃ y : Nat, x1 = y := ⟨x1.toNat, by omega⟩
  obtain ⟨y2, rfl⟩ : ∃ y : Nat, x2 = y := ⟨x2.toNat, by omega⟩
  obtain ⟨y3, rfl⟩ : ∃ y : Nat, x3 = y := ⟨x3.toNat, by omega⟩
  simp only [Int.toNat_natCast]
  have e1 : bits BinOp.or IntKind.u32 (y0 : Int) ((y1 : Int) * 256) = ((y0 + 256 * y1 : Nat) : Int) := or32 y0 y1 8 (by omega) (by omega) (by decide)
  have e2 : bits BinOp.or IntKind.u32 ((y0 + 256 * y1 : Nat) : Int) ((y2 : Int) * 65536) = ((y0 + 256 * y1 + 65536 * y2 : Nat) : Int) := or32 _ y2 16 (by omega) (by omega) (by decide)
  have e3 : bits BinOp.or IntKind.u32 ((y0 + 256 * y1 + 65536 * y2 : Nat) : Int) ((y3 : Int) * 16777216) = ((y0 + 256 * y1 + 65536 * y2 + 16777216 * y3 : Nat) : Int) := or32 _ y3 24 (by omega) (by omega) (by decide)
  rw [e1, e2, e3]
theorem at32_any (b off cap : Nat) (zs : List Int) (n : Nat) (w : World) (hn : zs.length = n) (hrow : Row w (some ⟨b, off, none⟩) zs) (h4 : 4 ≤ n) (hmax : n ≤ 140737488351232) :
    Calls Try.prog 61 #[.slice (some ⟨b, off, none⟩) n cap] w fun e w' => e = .returned (.int .u32 (rd32 zs : Nat)) ∧ ∃ m, w' = w.drewN m := by
  obtain ⟨b', off', he, hc⟩ : ∃ b' off', some (⟨b, off, none⟩ : Addr) = some ⟨b', off', none⟩ ∧ ∀ j, j < zs.length → w.cell? ⟨b', off' + j, none⟩ = some (.int .u8 (zs.getD j 0)) := by
    rcases hrow.cells with h | h
    · rw [h] at hn; simp at hn; omega
    · exact h
  cases he
  have c0 : w.cell? ⟨b, off, none⟩ = some (.int .u8 (zs.getD 0 0)) := hc 0 (by omega)
  have c1 : w.cell? ⟨b, off + 1, none⟩ = some (.int .u8 (zs.getD 1 0)) := hc 1 (by omega)
  have c2 : w.cell? ⟨b, off + 2, none⟩ = some (.int .u8 (zs.getD 2 0)) := hc 2 (by omega)
  have c3 : w.cell? ⟨b, off + 3, none⟩ = some (.int .u8 (zs.getD 3 0)) := hc 3 (by omega)
  have b0 := at_byte hrow.bytes 0
  have b1 := at_byte hrow.bytes 1
  have b2 := at_byte hrow.bytes 2
  have b3 := at_byte hrow.bytes 3
  clear hc
  have k1 : (1 : Int) < (n : Int) := by omega
  have k0 : (0 : Int) < (n : Int) := by omega
  have k2 : (2 : Int) < (n : Int) := by omega
  have k3 : (3 : Int) < (n : Int) := by omega
  go_enter Try.func61, Try.ntmps61
  go_wp2
  go_quiet (fail)
  go_wp2
  go_ret
  exact ⟨ret_int (join32 _ _ _ _ b0 b1 b2 b3), nq, rfl⟩
theorem own_le {w : World} {base base' n : Nat} {v : Value} {xs : List Value} (h : w.ownsRow base 5 1 v n xs) (hb : base' ≤ base) : w.ownsRow base' 5 1 v n xs :=
  ⟨h.1, h.2.elim Or.inl (fun ⟨g, cap, cur, hv, hg, r⟩ => Or.inr ⟨g, cap, cur, hv, Nat.le_trans hb hg, r⟩)⟩
/-- What w32 answers at a list of the call's own. -/
theorem w32_own (ax : Option Addr) (cx : Nat) (zs : List Int) (v n m base : Nat) (w : World) (hown : w.ownsRow base 5 1 (.slice ax n cx) n (bs zs)) (hby : By zs) (hm : n + 4 = m) (hmax : n ≤ 140737488351232) (hv : v < 4294967296) :
    Calls Try.prog 62 #[.slice ax n cx, .int .u32 v] w fun e w' => ∃ ay cy, e = .returned (.slice ay m cy) ∧ w'.ownsRow w.heap.size 5 1 (.slice ay m cy) m (bs (zs ++ le32 v)) ∧ Below w.heap.size w w' := by
  subst hm
  have hl : zs.length = n := by have := hown.1; rw [bs_len] at this; omega
  refine w32_any ax cx zs v n w hl (own_row hown hby) ?_ hmax hv
  intro h
  subst h
  rcases hown.2 with ⟨h1, h2⟩ | ⟨g, cap, cur, h1, _⟩
  · cases h1; exact ⟨rfl, rfl⟩
  · cases h1
theorem own_nil {w : World} {base n cx : Nat} {ax : Option Addr} {xs : List Value} (h : w.ownsRow base 5 1 (.slice ax n cx) n xs) : ax = none → n = 0 ∧ cx = 0 := by
  intro h'
  subst h'
  rcases h.2 with ⟨h1, h2⟩ | ⟨g, cap, cur, h1, _⟩
  · cases h1; exact ⟨rfl, rfl⟩
  · cases h1
theorem rcrc_at (a : Option Addr) (cap : Nat) (zs : List Int) (n : Nat) (w : World) (hn : zs.length = n) (hrow : Row w a zs) (hmax : n ≤ 140737488351232) :
    Calls Try.prog 63 #[.slice a n cap] w fun e w' => e = .returned (.int .u32 (ofN zs : Nat)) ∧ w' = w := by
  subst hn; exact rcrc_any a cap zs w hrow hmax
theorem rframe_any (a : Option Addr) (cap : Nat) (rs : List Int) (n : Nat) (w : World) (hn : rs.length = n) (hrow : Row w a rs) (hnil : a = none → n = 0 ∧ cap = 0) (hmax : n ≤ 8000) :
    Calls Try.prog 48 #[.slice a n cap] w fun e w' => ∃ ax cx, e = .returned (.slice ax (12 + n) cx) ∧ w'.ownsRow w.heap.size 5 1 (.slice ax (12 + n) cx) (12 + n) (bs (frameN rs)) ∧ Below w.heap.size w w' := by
  have HN : Hid (rs.length = n) := hn
  have HR : Hid (Row w a rs) := hrow
  have HNIL : Hid (a = none → n = 0 ∧ cap = 0) := hnil
  have hnot := bits_not_if n (by omega)
  have W1 : Hid (Calls Try.prog 62 #[.slice none 0 0, .int .u32 (n : Int)] w fun e w' => ∃ ay cy, e = .returned (.slice ay 4 cy) ∧ w'.ownsRow w.heap.size 5 1 (.slice ay 4 cy) 4 (bs (le32 n)) ∧ Below w.heap.size w w') :=
    w32_any none 0 [] n 0 w rfl (Row.nil _ _) (fun _ => ⟨rfl, rfl⟩) (by omega) (by omega)
  clear hn hrow hnil
  go_enter Try.func48, Try.ntmps48
  go_wp2_with (first | (at_builtin; refine wpList_append_on rfl (.tmp 20) (.tmp 21) rfl w4.heap.size w4 HB5.out HB5.out.size _ _ (hd n ++ le32 (ofN (hd n ++ rs))) rs rfl HOWN5.out _ _ _ rfl (HR4.out.below HB5.out (Nat.le_refl _)) HN.out HNIL.out ((hd_by n).app (le32_by _)) (by omega) ?_; intro b6 c6 w6 hown6 hb6; have HOWN6 : Hid (w6.ownsRow w4.heap.size 5 1 (.slice b6 (12 + n) c6) (12 + n) (bs (hd n ++ le32 (ofN (hd n ++ rs)) ++ rs))) := hown6; have HB6 : Hid (Below w4.heap.size w4 w6) := hb6; clear hown6 hb6) | (go_at_call 62; refine W3.out.mono ?_; rintro e w5 ⟨ax5, cx5, rfl, hown5, hb5⟩; have HOWN5 : Hid (w5.ownsRow w4.heap.size 5 1 (.slice ax5 12 cx5) 12 (bs (hd n ++ le32 (ofN (hd n ++ rs))))) := hown5; have HB5 : Hid (Below w4.heap.size w4 w5) := hb5; clear hown5 hb5) | (go_at_call 63; refine CRC.out.mono ?_; rintro e w5 ⟨rfl, hw⟩; obtain rfl := hw.symm; clear hw) | (at_builtin; refine wpList_append_on rfl (.tmp 16) (.tmp 17) rfl w2.heap.size w2 HB3.out HB3.out.size _ _ (hd n) rs rfl HOWN3.out _ _ _ rfl ((HR2.out).below HB3.out (Nat.le_refl _)) HN.out HNIL.out (hd_by n) (by omega) ?_; intro b4 c4 w4 hown4 hb4; have HOWN4 : Hid (w4.ownsRow w2.heap.size 5 1 (.slice b4 (8 + n) c4) (8 + n) (bs (hd n ++ rs))) := hown4; have HB4 : Hid (Below w2.heap.size w2 w4) := hb4; have HR4 : Hid (Row w4 a rs) := HR2.out.below HB4.out (Nat.le_refl _); have W3 : Hid (Calls Try.prog 62 #[.slice ax2 8 cx2, .int .u32 ((ofN (hd n ++ rs) : Nat) : Int)] w4 fun e w' => ∃ ay cy, e = .returned (.slice ay 12 cy) ∧ w'.ownsRow w4.heap.size 5 1 (.slice ay 12 cy) 12 (bs (hd n ++ le32 (ofN (hd n ++ rs)))) ∧ Below w4.heap.size w4 w') := w32_any ax2 cx2 (hd n) _ 8 w4 rfl ((own_row HOWN2.out (hd_by n)).below HB4.out (Nat.le_refl _)) HNIL2.out (by omega) (of_lt _); have CRC : Hid (Calls Try.prog 63 #[.slice b4 (8 + n) c4] w4 fun e w' => e = .returned (.int .u32 ((ofN (hd n ++ rs) : Nat) : Int)) ∧ w' = w4) := rcrc_at b4 c4 (hd n ++ rs) (8 + n) w4 (by rw [List.length_append, hd_len, HN.out]) (own_row HOWN4.out ((hd_by n).app HR.out.bytes)) (by omega); clear hown4 hb4) | (at_builtin; refine wpList_append_new rfl (.tmp 14) (.tmp 15) rfl rfl (hd n) _ _ _ rfl (own_row HOWN2.out (hd_by n)) (hd_len n) HNIL2.out (by omega) ?_; intro b3 c3 w3 hown3 hb3; have HOWN3 : Hid (w3.ownsRow w2.heap.size 5 1 (.slice b3 8 c3) 8 (bs (hd n))) := hown3; have HB3 : Hid (Below w2.heap.size w2 w3) := hb3; clear hown3 hb3) | (go_at_call 62; refine W2.out.mono ?_; rintro e w2 ⟨ax2, cx2, rfl, hown2, hb2⟩; have HOWN2 : Hid (w2.ownsRow w1.heap.size 5 1 (.slice ax2 8 cx2) 8 (bs (hd n))) := hown2; have HB2 : Hid (Below w1.heap.size w1 w2) := hb2; have HR2 : Hid (Row w2 a rs) := (HR.out.below HB1.out (Nat.le_refl _)).below HB2.out (Nat.le_refl _); have HNIL2 : Hid (ax2 = none → 8 = 0 ∧ cx2 = 0) := own_nil hown2; clear hown2 hb2 W2) | (go_at_call 62; refine W1.out.mono ?_; rintro e w1 ⟨ax1, cx1, rfl, hown1, hb1⟩; have HB1 : Hid (Below w.heap.size w w1) := hb1; have W2 : Hid (Calls Try.prog 62 #[.slice ax1 4 cx1, .int .u32 ((notN n : Nat) : Int)] w1 fun e w' => ∃ ay cy, e = .returned (.slice ay 8 cy) ∧ w'.ownsRow w1.heap.size 5 1 (.slice ay 8 cy) 8 (bs (hd n)) ∧ Below w1.heap.size w1 w') := w32_own ax1 cx1 (le32 n) (notN n) 4 8 w.heap.size _ hown1 (le32_by n) rfl (by omega) (notN_lt n); clear hown1 hb1 W1))
  go_ret
  refine ⟨b6, c6, rfl, own_le ?_ (Nat.le_trans HB1.out.size (Nat.le_trans HB2.out.size HB4.out.size)), HB1.out.trans ((HB2.out.mono HB1.out.size).trans ((HB4.out.mono (Nat.le_trans HB1.out.size HB2.out.size)).trans (HB6.out.mono (Nat.le_trans HB1.out.size (Nat.le_trans HB2.out.size HB4.out.size)))))⟩
  have h := HOWN6.out
  have e : hd n ++ le32 (ofN (hd n ++ rs)) ++ rs = frameN rs := by unfold frameN; rw [HN.out, List.append_assoc]
  rw [e] at h
  exact h
end Go.Proofs.Ytlfmhdljldbjmaa
