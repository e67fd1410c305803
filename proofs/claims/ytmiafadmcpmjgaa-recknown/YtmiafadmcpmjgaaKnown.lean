/-
  RecKnown: what chapter 14 says of what may not be is answered so.
-/
import Derived.Test.YtmiafadmcpmjgaaRows
import Derived.Test.YtmiafadmcpmjgaaRecLaw4
import Derived.WalkKit
import Derived.ProofKit
import Derived.OpenShut
import Derived.ShutString
import Derived.ChangeOld
import Derived.Below
import Derived.Carry
namespace Go.Proofs.Ytmiafadmcpmjgaa.recKnown
open Go.ChangeShapes Go.WideShapes Go.ChangeAt Go.RowKit
open Go.ChangeMaps (open_string shut_string)
set_option linter.unusedVariables false

theorem own : ownKnob Try.prog.godebug = none := by kernel_rfl
theorem laidOut : laidOutB Try.prog = true := by kernel_rfl
/-- A slice of integers that came in: nil, or a row of 'cap' cells, of which the first 'len' are its elements. -/
def IsRow (k : IntKind) (w : World) (a : Option Addr) (len cap : Nat) (zs : List Int) : Prop :=
  (a = none ∧ len = 0 ∧ cap = 0 ∧ zs = []) ∨
  ∃ x, a = some x ∧ len ≤ cap ∧ cap ≤ maxLen ∧ zs.length = cap ∧ (∀ i, i < zs.length → w.cell? (x.add i) = some (.int k (zs.getD i 0))) ∧ ∀ n ∈ zs, (Lit.int k n).wf = true

open Classical in
set_option maxRecDepth 20000 in
set_option maxHeartbeats 16000000 in
theorem walk  (w : World)  :
    Calls Try.prog 3 #[] w fun e w' => e = .returned (.bool true) ∧ Below w.heap.size w w' := by
  have AW : Hid (∀ u, Calls Try.prog 7 #[] u fun e w' => e = .returned (.bool true) ∧ Below u.heap.size u w') := fun u => awake_any u
  have CG1 : Hid (∀ u, Calls Try.prog 8 #[.slice none 0 0] u fun e w' => e = .returned (.tuple #[.agg knZ, .int .i64 3]) ∧ Below u.heap.size u w') := fun u => lGet_no none 0 0 [] u (Row.nil _ _) rfl (by omega) (by omega) kn_nil
  have CG2 : Hid (∀ u, Calls Try.prog 8 #[.slice (some ⟨u.heap.size + 1, 0, none⟩) 3 3] ((u.alloc (.cells knZ 28)).alloc (.cells #[.int .u8 3, .int .u8 2, .int .u8 0] 5)) fun e w' => e = .returned (.tuple #[.agg knZ, .int .i64 3]) ∧ Below u.heap.size u w') := fun u => by
    have ba : Below u.heap.size u ((u.alloc (.cells knZ 28)).alloc (.cells #[.int .u8 3, .int .u8 2, .int .u8 0] 5)) := ((Below.refl _ _).alloc (Nat.le_refl _) _).alloc (by simp) _
    refine (lGet_no (some ⟨u.heap.size + 1, 0, none⟩) 3 3 [3, 2, 0] _ (row_three _ 3 2 0 (by omega) (by omega) (by omega) _ (by rw [World.size_alloc])) rfl (by omega) (by omega) kn320).mono ?_
    rintro e w' ⟨rfl, h⟩
    exact ⟨rfl, ba.trans (h.mono ba.size)⟩
  obtain ⟨BS, hBS⟩ : ∃ B, B = wrtsB knW := ⟨_, rfl⟩
  have HLB : Hid (BS.length = 38) := by rw [hBS]; exact knB_len
  have HBB : Hid (Bys BS) := by rw [hBS]; exact knB_bys
  have CPW : Hid (∀ u q, KnV w u q → Calls Try.prog 9 #[.slice none 0 0, .slice (some ⟨q + 1 + 1 + 1 + 1 + 1 + 1, 0, none⟩) 2 2] u fun e w' => ∃ a c, e = .returned (.slice a 38 c) ∧ Bt u w' BS a 38 c) := fun u q h => by
    refine (lPutWs_any (some ⟨q + 1 + 1 + 1 + 1 + 1 + 1, 0, none⟩) 2 2 knW u rfl (by omega) knW_vals h.ws).mono ?_
    rintro e w' ⟨a, c, rfl, h1, h2⟩
    rw [← hBS, HLB.out] at h1 ⊢
    exact ⟨a, c, rfl, ⟨h1, HLB.out, HBB.out, h2⟩⟩
  have CW1 : Hid (∀ B u a c, Bt B u (BS ++ [9]) a 39 c → Calls Try.prog 10 #[.slice a 39 c] u fun e w' => ∃ (ax : Option Addr) (cx : Nat), e = .returned (.tuple #[.slice ax 2 cx, .int .i64 38, .int .i64 0]) ∧ 2 ≤ cx ∧ WrtsAt w' ax knW ∧ Below u.heap.size u w') := fun B u a c h => by
    refine lGetWs_ok a c 39 (BS ++ [9]) u h.row h.len h.room (by omega) knW [9] (by rw [hBS]; exact knB_get) 2 rfl 38 ?_
    rw [List.length_append, HLB.out]
    rfl
  have CW2 : Hid (∀ u, Calls Try.prog 10 #[.slice (some ⟨u.heap.size, 0, none⟩) 2 2] (u.alloc (.cells #[.int .u8 0, .int .u8 7] 5)) fun e w' => ∃ (ax : Option Addr) (cx : Nat), e = .returned (.tuple #[.slice ax 0 cx, .int .i64 1, .int .i64 0]) ∧ Below u.heap.size u w') := fun u => by
    have ba : Below u.heap.size u (u.alloc (.cells #[.int .u8 0, .int .u8 7] 5)) := (Below.refl _ _).alloc (Nat.le_refl _) _
    refine (lGetWs_ok (some ⟨u.heap.size, 0, none⟩) 2 2 [0, 7] _ (row_two u 0 7 (by omega) (by omega) _ rfl) rfl (by omega) (by omega) [] [7] kn07 0 rfl 1 rfl).mono ?_
    rintro e w' ⟨ax, cx, rfl, _, _, h⟩
    exact ⟨ax, cx, rfl, ba.trans (h.mono ba.size)⟩
  have CW3 : Hid (∀ u, Calls Try.prog 10 #[.slice (some ⟨u.heap.size, 0, none⟩) 1 1] (u.alloc (.cells #[.int .u8 1] 5)) fun e w' => ∃ (ax : Option Addr) (cx : Nat), e = .returned (.tuple #[.slice ax 0 cx, .int .i64 0, .int .i64 3]) ∧ Below u.heap.size u w') := fun u => by
    have ba : Below u.heap.size u (u.alloc (.cells #[.int .u8 1] 5)) := (Below.refl _ _).alloc (Nat.le_refl _) _
    refine (lGetWs_no (some ⟨u.heap.size, 0, none⟩) 1 1 [1] _ (row_made u 1 (by omega) (by omega) _ rfl) rfl (by omega) (by omega) kn1).mono ?_
    rintro e w' ⟨ax, cx, rfl, h⟩
    exact ⟨ax, cx, rfl, ba.trans (h.mono ba.size)⟩
  have GC : Hid (∀ u q, KnV w u q → Calls Try.prog 11 #[.agg (knC q)] u fun e w' => e = .returned (.bool true) ∧ Below u.heap.size u w') := fun u q h => kn_good u 4 1 0 0 _ [0, 2] 2 2 h.ps rfl (by omega) (by omega) (by omega) (by omega) (by omega) true (by decide)
  have GD : Hid (∀ u q, KnV w u q → Calls Try.prog 11 #[.agg #[.int .i64 4, .int .i64 1, .int .i64 0, .int .u8 0, .int .i64 5, .int .u8 1, .slice none 0 0, .bool false, .slice (some ⟨q + 1, 0, none⟩) 2 2]] u fun e w' => e = .returned (.bool false) ∧ Below u.heap.size u w') := fun u q h => kn_good u 4 1 5 1 _ [0, 2] 2 2 h.ps rfl (by omega) (by omega) (by omega) (by omega) (by omega) false (by decide)
  have GF : Hid (∀ u, Calls Try.prog 11 #[.agg knF] u fun e w' => e = .returned (.bool true) ∧ Below u.heap.size u w') := fun u => kn_good u 5 0 9 0 none [] 0 0 (IntsAt.none _ _) rfl (by omega) (by omega) (by omega) (by omega) (by omega) true (by decide)
  have GG : Hid (∀ u, Calls Try.prog 11 #[.agg knG] u fun e w' => e = .returned (.bool false) ∧ Below u.heap.size u w') := fun u => kn_good u 3 1 5 1 none [] 0 0 (IntsAt.none _ _) rfl (by omega) (by omega) (by omega) (by omega) (by omega) false (by decide)
  have PG : Hid (∀ u, Calls Try.prog 12 #[.agg knG] u fun e w' => ∃ a c, e = .returned (.slice a 0 c) ∧ Below u.heap.size u w') := fun u => kn_putg u
  have G1 : Hid (∀ u, Calls Try.prog 11 #[.agg #[.int .i64 4, .int .i64 1, .int .i64 0, .int .u8 0, .int .i64 0, .int .u8 0, .slice none 0 0, .bool false, .slice (some ⟨u.heap.size, 0, none⟩) 2 2]] (u.alloc (.cells #[.int .i64 2, .int .i64 0] 3)) fun e w' => e = .returned (.bool false) ∧ Below u.heap.size u w') := fun u => by
    have ba : Below u.heap.size u (u.alloc (.cells #[.int .i64 2, .int .i64 0] 3)) := (Below.refl _ _).alloc (Nat.le_refl _) _
    refine (kn_good _ 4 1 0 0 _ [2, 0] 2 2 (kn_ints u 2 0 (by omega) (by omega) _ rfl) rfl (by omega) (by omega) (by omega) (by omega) (by omega) false (by decide)).mono ?_
    rintro e w' ⟨rfl, h⟩
    exact ⟨rfl, ba.trans (h.mono ba.size)⟩
  have G2 : Hid (∀ u, Calls Try.prog 11 #[.agg #[.int .i64 5, .int .i64 1, .int .i64 0, .int .u8 0, .int .i64 0, .int .u8 0, .slice none 0 0, .bool false, .slice none 0 0]] u fun e w' => e = .returned (.bool false) ∧ Below u.heap.size u w') := fun u => kn_good u 5 1 0 0 none [] 0 0 (IntsAt.none _ _) rfl (by omega) (by omega) (by omega) (by omega) (by omega) false (by decide)
  have G3 : Hid (∀ u, Calls Try.prog 11 #[.agg #[.int .i64 6, .int .i64 1, .int .i64 0, .int .u8 0, .int .i64 0, .int .u8 0, .slice none 0 0, .bool false, .slice none 0 0]] u fun e w' => e = .returned (.bool false) ∧ Below u.heap.size u w') := fun u => kn_good u 6 1 0 0 none [] 0 0 (IntsAt.none _ _) rfl (by omega) (by omega) (by omega) (by omega) (by omega) false (by decide)
  have RW : Hid (∀ u q ax cx, KnV w u q → 2 ≤ cx → WrtsAt u ax knW → Calls Try.prog 13 #[.slice ax 2 cx, .slice (some ⟨q + 1 + 1 + 1 + 1 + 1 + 1, 0, none⟩) 2 2] u fun e w' => e = .returned (.bool true) ∧ Below u.heap.size u w') := fun u q ax cx h hc hx => by
    have h3 := rwrites_any ax (some ⟨q + 1 + 1 + 1 + 1 + 1 + 1, 0, none⟩) 2 2 cx 2 knW knW u rfl rfl hc (Nat.le_refl _) (by omega) (by omega) hx h.ws
    rw [decide_eq_true rfl] at h3
    exact h3
  clear hBS
  go_enter Try.func3, Try.ntmps3
  go_wp2_with (first
    | ((with_reducible show wpList _ _ _ (Oper.mk (some 46) _ _ _ _ _ :: _) _ _); refine wpList_build_ws2 46 (by rfl) (by rfl) _ _ (by rfl) knWA knWB knKA_ky knKB_ky (by rfl) (by rfl) ?_)
    | ((with_reducible show wpList _ _ _ (Oper.mk (some 45) _ _ _ _ _ :: _) _ _); refine wpList_build_w3 45 (by rfl) (by rfl) _ _ (by rfl) knKB true knKB_ky (by rfl) (by rfl) ?_)
    | ((with_reducible show wpList _ _ _ (Oper.mk (some 43) _ _ _ _ _ :: _) _ _); refine wpList_build_w2 43 (by rfl) (by rfl) _ _ (by rfl) knKA [120] knKA_ky (by rfl) (by rfl) ?_)
    | (have hgo := S16.out; clear hgo; go_at_call 13; refine (RW.out _ _ _ _ S16.out.1 S16.out.2.1 S16.out.2.2).mono ?_; rintro e v17 ⟨rfl, hb⟩; have S17 : Hid (KnV w v17 v2.heap.size ∧ 2 ≤ cx ∧ WrtsAt v17 ax knW) := ⟨S16.out.1.past hb, S16.out.2.1, S16.out.2.2.past hb⟩; clear hb RW S16)
    | (have hgo := S15.out; clear hgo; go_at_call 11; refine (G3.out _).mono ?_; rintro e v16 ⟨rfl, hb⟩; have S16 : Hid (KnV w v16 v2.heap.size ∧ 2 ≤ cx ∧ WrtsAt v16 ax knW) := ⟨S15.out.1.past hb, S15.out.2.1, S15.out.2.2.past hb⟩; clear hb G3 S15)
    | (have hgo := S14.out; clear hgo; go_at_call 11; refine (G2.out _).mono ?_; rintro e v15 ⟨rfl, hb⟩; have S15 : Hid (KnV w v15 v2.heap.size ∧ 2 ≤ cx ∧ WrtsAt v15 ax knW) := ⟨S14.out.1.past hb, S14.out.2.1, S14.out.2.2.past hb⟩; clear hb G2 S14)
    | (have hgo := S13.out; clear hgo; go_at_call 11; refine (G1.out _).mono ?_; rintro e v14 ⟨rfl, hb⟩; have S14 : Hid (KnV w v14 v2.heap.size ∧ 2 ≤ cx ∧ WrtsAt v14 ax knW) := ⟨S13.out.1.past hb, S13.out.2.1, S13.out.2.2.past hb⟩; clear hb G1 S13)
    | (have hgo := S12.out; clear hgo; go_at_call 12; refine (PG.out _).mono ?_; rintro e v13 ⟨a13, c13, rfl, hb⟩; have S13 : Hid (KnV w v13 v2.heap.size ∧ 2 ≤ cx ∧ WrtsAt v13 ax knW) := ⟨S12.out.1.past hb, S12.out.2.1, S12.out.2.2.past hb⟩; clear p120 p121 p122 p123 p124 p125 p126 p127 p128; clear hb PG S12)
    | (have hgo := S11.out; clear hgo; go_at_call 11; refine (GG.out _).mono ?_; rintro e v12 ⟨rfl, hb⟩; have S12 : Hid (KnV w v12 v2.heap.size ∧ 2 ≤ cx ∧ WrtsAt v12 ax knW) := ⟨S11.out.1.past hb, S11.out.2.1, S11.out.2.2.past hb⟩; obtain ⟨p120, p121, p122, p123, p124, p125, p126, p127, p128⟩ := S12.out.1.g; clear p110 p111 p112 p113 p114 p115 p116 p117 p118; clear hb GG S11)
    | (have hgo := S10.out; clear hgo; go_at_call 11; refine (GF.out _).mono ?_; rintro e v11 ⟨rfl, hb⟩; have S11 : Hid (KnV w v11 v2.heap.size ∧ 2 ≤ cx ∧ WrtsAt v11 ax knW) := ⟨S10.out.1.past hb, S10.out.2.1, S10.out.2.2.past hb⟩; obtain ⟨p110, p111, p112, p113, p114, p115, p116, p117, p118⟩ := S11.out.1.g; clear p100 p101 p102 p103 p104 p105 p106 p107 p108; clear hb GF S10)
    | (have hgo := S9.out; clear hgo; go_at_call 11; refine (GD.out _ _ S9.out.1).mono ?_; rintro e v10 ⟨rfl, hb⟩; have S10 : Hid (KnV w v10 v2.heap.size ∧ 2 ≤ cx ∧ WrtsAt v10 ax knW) := ⟨S9.out.1.past hb, S9.out.2.1, S9.out.2.2.past hb⟩; obtain ⟨p100, p101, p102, p103, p104, p105, p106, p107, p108⟩ := S10.out.1.f; clear p90 p91 p92 p93 p94 p95 p96 p97 p98; clear hb GD S9)
    | (have hgo := S8.out; clear hgo; go_at_call 11; refine (GC.out _ _ S8.out.1).mono ?_; rintro e v9 ⟨rfl, hb⟩; have S9 : Hid (KnV w v9 v2.heap.size ∧ 2 ≤ cx ∧ WrtsAt v9 ax knW) := ⟨S8.out.1.past hb, S8.out.2.1, S8.out.2.2.past hb⟩; obtain ⟨p90, p91, p92, p93, p94, p95, p96, p97, p98⟩ := S9.out.1.d; clear p80 p81 p82 p83 p84 p85 p86 p87 p88; clear hb GC S8)
    | (have hgo := S7.out; clear hgo; go_at_call 10; refine (CW3.out _).mono ?_; rintro e v8 ⟨az, cz, rfl, hb⟩; have S8 : Hid (KnV w v8 v2.heap.size ∧ 2 ≤ cx ∧ WrtsAt v8 ax knW) := ⟨S7.out.1.past hb, S7.out.2.1, S7.out.2.2.past hb⟩; obtain ⟨p80, p81, p82, p83, p84, p85, p86, p87, p88⟩ := S8.out.1.c; clear hb CW3 S7)
    | (have hgo := S6.out; clear hgo; go_at_call 10; refine (CW2.out _).mono ?_; rintro e v7 ⟨ay, cy, rfl, hb⟩; have S7 : Hid (KnV w v7 v2.heap.size ∧ 2 ≤ cx ∧ WrtsAt v7 ax knW) := ⟨S6.out.1.past hb, S6.out.2.1, S6.out.2.2.past hb⟩; clear hb CW2 S6)
    | (have hgo := S5.out; clear hgo; go_at_call 10; refine (CW1.out _ _ _ _ S5.out.1).mono ?_; rintro e v6 ⟨ax, cx, rfl, hc, hx, hb⟩; have S6 : Hid (KnV w v6 v2.heap.size ∧ 2 ≤ cx ∧ WrtsAt v6 ax knW) := ⟨S5.out.2.past hb, hc, hx⟩; clear hb hc hx CW1 S5)
    | (have hgo := S4.out; clear hgo; at_builtin; refine wpList_append_on rfl (.tmp 52) (.tmp 53) rfl v3.heap.size v3 (S4.out.1.below.alloc S4.out.1.below.size _) (S4.out.1.below.alloc S4.out.1.below.size _).size _ 38 BS [9] rfl (own_below S4.out.1.own ((Below.refl _ _).alloc (Nat.le_refl _) _) (Nat.le_refl _)) _ _ _ rfl (row_made w4 9 (by omega) (by omega) _ rfl) rfl (fun h => by cases h) HBB.out (by omega) ?_; intro a5 c5 w5 o5 b5; have S5 : Hid (Bt v3 w5 (BS ++ [9]) a5 39 c5 ∧ KnV w w5 v2.heap.size) := ⟨⟨o5, (by rw [List.length_append, HLB.out]; rfl), HBB.out.app (fun z hz => by simp at hz; omega), b5⟩, SM.out.past b5⟩; clear o5 b5 S4 SM)
    | (have hgo := S3.out; clear hgo; at_builtin; refine wpList_append_new rfl (.tmp 50) (.tmp 51) rfl rfl BS _ _ _ rfl S3.out.1.row HLB.out S3.out.1.nil (by omega) ?_; intro a4 c4 w4 o4 b4; have S4 : Hid (Bt v3 w4 BS a4 38 c4 ∧ KnV w w4 v2.heap.size) := ⟨⟨o4, HLB.out, HBB.out, b4⟩, S3.out.2.past b4⟩; have SM : Hid (KnV w v3 v2.heap.size) := S3.out.2; clear o4 b4 S3)
    | (have hgo := S2.out; clear hgo; go_at_call 9; obtain ⟨V, hV⟩ : ∃ V, V = knW3 v2 := ⟨_, rfl⟩; have HV : Hid (KnV w V v2.heap.size) := (by rw [hV]; exact kn_w3 S2.out); change Calls Try.prog _ _ (knW3 v2) _; rw [← hV]; refine (CPW.out _ _ HV.out).mono ?_; rintro e v3 ⟨a3, c3, rfl, hb⟩; have S3 : Hid (Bt V v3 BS a3 38 c3 ∧ KnV w v3 v2.heap.size) := ⟨hb, HV.out.past hb.below⟩; clear hb CPW S2 HV hV ca0 ca1 cb0 cb1)
    | (have hgo := S1.out; clear hgo; go_at_call 8; refine (CG2.out _).mono ?_; rintro e v2 ⟨rfl, hb⟩; have S2 : Hid (KnA w v2 v0.heap.size) := S1.out.past hb; have ca0 := (kn_w1 S2.out).c0; have ca1 := (kn_w1 S2.out).c1; have cb0 := (kn_w2 S2.out).c0; have cb1 := (kn_w2 S2.out).c1; clear hb CG2 S1)
    | (have hgo := S0.out; clear hgo; go_at_call 8; refine (CG1.out _).mono ?_; rintro e v1 ⟨rfl, hb⟩; have S1 : Hid (KnA w v1 v0.heap.size) := S0.out.past hb; clear hb CG1 S0)
    | (go_at_call 7; refine (AW.out _).mono ?_; rintro e v0 ⟨rfl, hb⟩; have S0 : Hid (KnA w (v0.alloc (.cells #[.int .i64 5, .int .u8 1] 24)) v0.heap.size) := KnA.made hb; clear hb AW))
  go_ret
  exact ⟨rfl, S17.out.1.below⟩

set_option maxRecDepth 100000 in
theorem lifted (os : Os) (started : os.Started) (H : Type) (enc : TypeId × Value → H) :
    ReturnsInHanded {} Try.checked os 3 .any (Rows.recKnownSpec.pre6 enc Try.prog Try.f3 Rows.recKnownRow.domain false) (Rows.recKnownSpec.post enc Try.prog Try.f3 false true false false) := by
  refine returnsInHanded_of_change (C := Try.checked) own started (by kernel_rfl) Try.func3
    (ChangeSpec.witness6 (enc := enc) (C := Try.checked) false ⟨#[], #[], []⟩ 8 (by kernel_rfl) (by kernel_rfl) (by kernel_rfl) (by kernel_rfl)) ?_
  intro W base args ds gs before hval0 hW hcnd _
  have hval : ∀ (j : Nat) t v, Try.f3.params[j]? = some t → args[j]? = some v → Value.okWide Try.prog W .any base t v := hval0
  have hW' := hW
  obtain ⟨p, q, hA0, hV, rfl, hfz, hnd⟩ := hW
  have hA : DataW.TrodAll enc Try.prog W 0 (fun _ => true) true Try.f3.params.toList args.toList ds p := hA0
  rw [Try.params3] at hA hval
  obtain ⟨hargs, rfl, rfl⟩ := trodAll_nil hA
  obtain rfl : args = #[] := by cases args; simp_all
  obtain ⟨rfl, rfl⟩ := trodVars_none hV
  clear hA0 hval0
  refine (walk  W ).mono fun e W' ⟨he, bel⟩ => ?_
  subst he
  exact ⟨_, rfl, _, _, _, [], _, [], hW', trodAll_mk1 (shut_bool Try.underlying4 _), trodAll_mk0, rfl, bel.frame _, fun h => by cases h⟩

theorem over : Rows.recKnownRow.holds Try.pinned (OpenSpec.ofChange Rows.recKnownSpec) :=
  OpenClaim.holds_of_wide 3 Try.f3 rfl rfl rfl rfl rfl rfl rfl ⟨rfl, rfl, rfl, rfl, rfl⟩ rfl rfl rfl rfl rfl (by kernel_rfl) Try.func3 (by kernel_rfl)
    (of_decide_eq_true (by kernel_rfl)) (by unfold Func.isWrapper; first | (rw [if_pos (by decide +kernel)]; kernel_rfl) | (rw [if_neg (by decide +kernel)]; exact ⟨rfl, rfl⟩))
    (fun os started H enc _ => lifted os started H enc)
theorem proved : Rows.RecKnownSaid := over
#print axioms proved
end Go.Proofs.Ytmiafadmcpmjgaa.recKnown
namespace Go.Proofs.Ytmiafadmcpmjgaa
/-- RecKnown, as given. -/
theorem recKnown_holds : Rows.RecKnownSaid := recKnown.proved
end Go.Proofs.Ytmiafadmcpmjgaa
