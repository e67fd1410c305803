/-
  Regions that draw their order and one of whose operations writes what the others ahead of it read: what holds behind every operation is asked until that one has come.
  What the library's own searches and comparisons answer at keys and at texts.
  What the document's own keys of texts (hourglassref10: Of) answer.
  What package key answers: Cmp, textLen, Good, Text, Sum, Within, Of.
-/
import Derived.Test.YtileidbdmpeciaaGreatAu117
import Derived.Test.YtileidbdmpeciaaGreatAu92
import Derived.Lib.BytesEntry
import Derived.BigRegion
import Derived.BigQuiet
import Derived.Test.YtileidbdmpeciaaGreatAu96
import Derived.Deep.QuietTactic
import Derived.Sort.Grow
namespace Go.Proofs.YtileidbdmpeciaaGreat
open Go Go.RowKit
set_option linter.unusedVariables false

section
variable {P : Program} {ops : Array Oper} {Q : Exit → Act → World → Prop} {md : Region.Mode} {S : World → Prop} {z : Nat}
/-- Whatever order is picked from here on; S holds behind each operation that comes ahead of number z. -/
def wpUp (P : Program) (md : Region.Mode) (ops : Array Oper) (Q : Exit → Act → World → Prop) (S : World → Prop) (z : Nat) : Nat → Array Bool → Act → World → Prop
  | 0, l, a, w => Region.ready md ops l = [] ∧ Q .normal a w
  | n + 1, l, a, w => (Region.ready md ops l = [] → Q .normal a w) ∧
    ∀ i ∈ Region.ready md ops l, wpOp P ops Q i (fun a' w' => (l.getD z false = false → i ≠ z → S w') ∧ wpUp P md ops Q S z n (l.setIfInBounds i true) a' w') a w
theorem up_any : ∀ (n : Nat) (l : Array Bool) (a : Act) (w : World), wpUp P md ops Q S z n l a w → wpAny P md ops Q n l a w
  | 0, _, _, _, h => h
  | n + 1, _, _, _, h => ⟨h.1, fun i hi => wpOp_mono (fun a' w' h' => up_any n _ a' w' h'.2) (h.2 i hi)⟩
/-- Number z waits for number i, by way of others that have not come. -/
def reachW (md : Region.Mode) (ops : Array Oper) (l : Array Bool) : Nat → Nat → Nat → Bool
  | 0, _, _ => false
  | f + 1, z, i => waits md ops z i || (List.range ops.size).any fun k => !(l.getD k false) && waits md ops z k && reachW md ops l f k i
theorem reach_on {i j : Nat} {oj : Oper} {l : Array Bool} (hi : l.getD i false = false) (hoj : ops[j]? = some oj) (hall : ∀ e ∈ oj.after, Region.binds md e = true → l.getD e.on false = true) : ∀ (f z : Nat), reachW md ops l f z i = true → j ≠ z ∧ reachW md ops (l.setIfInBounds j true) f z i = true
  | 0, z, h => by simp [reachW] at h
  | f + 1, z, h => by
    unfold reachW at h ⊢
    simp only [Bool.or_eq_true, List.any_eq_true, Bool.and_eq_true, Bool.not_eq_true'] at h ⊢
    rcases h with h | ⟨k, hk, ⟨h1, h2⟩, h3⟩
    · refine ⟨fun e => ?_, .inl h⟩
      subst e
      have := waits_listed h hoj hall
      rw [hi] at this; cases this
    · obtain ⟨h4, h5⟩ := reach_on hi hoj hall f k h3
      refine ⟨fun e => ?_, .inr ⟨k, hk, ⟨by rw [getD_set_ne false h4]; exact h1, h2⟩, h5⟩⟩
      subst e
      have := waits_listed h2 hoj hall
      rw [h1] at this; cases this
theorem up_first {i : Nat} {oi : Oper} {v : Value} (f : Nat) (hiz : i ≠ z) (hi : ops[i]? = some oi) (hsel : ∀ (j : Nat) (o : Oper) cs b, ops[j]? = some o → o.op ≠ .select cs b) (hQ : ∀ c a w, Q (.panic c) (a.put oi.dst v) w → Q (.panic c) a w) :
    ∀ (n : Nat) (l : Array Bool) (a : Act) (w : World), (∀ j oj, ops[j]? = some oj → j ≠ i → l.getD j true = false → (∀ e ∈ oj.after, Region.binds md e = true → e.on ≠ i) → oi.apart ops oj = true) →
      reachW md ops l f z i = true → l.getD z false = false → i ∈ Region.ready md ops l → YieldsIf P ops S oi v a → S w → wpUp P md ops Q S z n (l.setIfInBounds i true) (a.put oi.dst v) w → wpUp P md ops Q S z (n + 1) l a w := by
  intro n
  induction n with
  | zero =>
    intro l a w _ _ _ hr hy hS H
    refine ⟨fun h => (by rw [h] at hr; cases hr), fun j hj => ?_⟩
    by_cases hji : j = i
    · rw [hji]; exact hy.wpOp hi hS ⟨fun _ _ => hS, H⟩
    · have h0 := ready_mono hj hji
      rw [H.1] at h0
      cases h0
  | succ n ih =>
    intro l a w hfree hre hzl hr hy hS H
    refine ⟨fun h => (by rw [h] at hr; cases hr), fun j hj => ?_⟩
    by_cases hji : j = i
    · rw [hji]; exact hy.wpOp hi hS ⟨fun _ _ => hS, H⟩
    · obtain ⟨hun, oj, hoj, hall⟩ := mem_ready.1 hj
      have hiu : l.getD i false = false := by
        have h0 := (mem_ready.1 hr).1
        rcases Nat.lt_or_ge i l.size with h' | h'
        · simp [h'] at h0 ⊢; exact h0
        · simp [Array.getElem?_eq_none h']
      have hnot : ∀ e ∈ oj.after, Region.binds md e = true → e.on ≠ i := fun e he hb heq => by
        have h1 := hall e he hb
        rw [heq, hiu] at h1
        cases h1
      have h2 := wpOp_putIf hoj (hfree j oj hoj hji hun hnot) (fun cs b => hsel i oi cs b hi) (fun cs b => hsel j oj cs b hoj) hQ hy (H.2 j (ready_mono hj hji))
      have hfree' : ∀ k ok, ops[k]? = some ok → k ≠ i → (l.setIfInBounds j true).getD k true = false → (∀ e ∈ ok.after, Region.binds md e = true → e.on ≠ i) → oi.apart ops ok = true := fun k ok hk hki hu hno => by
        refine hfree k ok hk hki ?_ hno
        by_cases hjk : j = k
        · rw [← hjk]; exact hun
        · rw [getD_set_ne true hjk] at hu; exact hu
      have hri := ready_mono hr (Ne.symm hji)
      obtain ⟨hjz, hre'⟩ := reach_on hiu hoj hall f z hre
      have hzl' : (l.setIfInBounds j true).getD z false = false := by rw [getD_set_ne false hjz]; exact hzl
      have hcomm : (l.setIfInBounds i true).setIfInBounds j true = (l.setIfInBounds j true).setIfInBounds i true := Array.setIfInBounds_comm _ _ (Ne.symm hji)
      refine wpOp_mono (fun a' w' h3 => ?_) h2
      rw [hcomm] at h3
      have hS' := h3.2.1 (by rw [getD_set_ne false hiz]; exact hzl) hjz
      exact ⟨fun _ _ => hS', ih (l.setIfInBounds j true) a' w' hfree' hre' hzl' hri h3.1 hS' h3.2.2⟩
/-- Take number i first, whom z waits for. -/
theorem up_take {i : Nat} {oi : Oper} {v : Value} {n : Nat} {l : Array Bool} {a : Act} {w : World} (hz : reachW md ops l 16 z i = true) (hzl : l.getD z false = false) (hiz : (i == z) = false) (hi : ops[i]? = some oi) (hs : Region.noSelect ops = true) (hf : Region.free md ops l i = true) (hr : (Region.ready md ops l).contains i = true)
    (hQ : ∀ c a w, Q (.panic c) (a.put oi.dst v) w → Q (.panic c) a w) (hy : YieldsIf P ops S oi v a) (hS : S w) (h : wpUp P md ops Q S z n (l.setIfInBounds i true) (a.put oi.dst v) w) : wpUp P md ops Q S z (n + 1) l a w :=
  up_first 16 (by simpa using hiz) hi (Region.noSelect_spec hs) hQ n l a w (Region.free_spec hi hf) hz hzl (by simpa using hr) hy hS h
/-- Each of those that may come up comes up. -/
def AllUp (P : Program) (md : Region.Mode) (ops : Array Oper) (Q : Exit → Act → World → Prop) (S : World → Prop) (z : Nat) (n : Nat) (l : Array Bool) (a : Act) (w : World) (rs : List Nat) : Prop :=
  ∀ i ∈ rs, wpOp P ops Q i (fun a' w' => (l.getD z false = false → i ≠ z → S w') ∧ wpUp P md ops Q S z n (l.setIfInBounds i true) a' w') a w
theorem AllUp.nil {n : Nat} {l : Array Bool} {a : Act} {w : World} : AllUp P md ops Q S z n l a w [] := fun _ h => by cases h
theorem AllUp.cons {n : Nat} {l : Array Bool} {a : Act} {w : World} {i : Nat} {o : Oper} {rs : List Nat} (ho : ops[i]? = some o)
    (h : ∀ K : Act → World → Prop, Hid (∀ a w, S w → (S w → wpUp P md ops Q S z n (l.setIfInBounds i true) a w) → K a w) → if Region.wanted o (yielded ops a.tmps) = true then Oper.wp P o a w K Q else K (a.put o.dst undef) w)
    (hs : AllUp P md ops Q S z n l a w rs) : AllUp P md ops Q S z n l a w (i :: rs) := fun j hj => by
  rcases List.mem_cons.1 hj with rfl | hj
  · exact wpOp_step ho (fun K hK => h K (fun a w hS hW => hK a w ⟨fun _ _ => hS, hW hS⟩))
  · exact hs j hj
/-- Number z itself: nothing is asked behind it. -/
theorem AllUp.that {n : Nat} {l : Array Bool} {a : Act} {w : World} {o : Oper} {rs : List Nat} (ho : ops[z]? = some o)
    (h : ∀ K : Act → World → Prop, Hid (∀ a w, wpUp P md ops Q S z n (l.setIfInBounds z true) a w → K a w) → if Region.wanted o (yielded ops a.tmps) = true then Oper.wp P o a w K Q else K (a.put o.dst undef) w)
    (hs : AllUp P md ops Q S z n l a w rs) : AllUp P md ops Q S z n l a w (z :: rs) := fun j hj => by
  rcases List.mem_cons.1 hj with rfl | hj
  · exact wpOp_step ho (fun K hK => h K (fun a w hW => hK a w ⟨fun _ hne => absurd rfl hne, hW⟩))
  · exact hs j hj
theorem up_ready {rs : List Nat} {n : Nat} {l : Array Bool} {a : Act} {w : World} (hr : Region.ready md ops l = rs) (hne : rs ≠ []) (h : AllUp P md ops Q S z n l a w rs) : wpUp P md ops Q S z (n + 1) l a w := ⟨fun h0 => absurd (hr ▸ h0) hne, hr ▸ h⟩
/-- Behind z: one that reads no memory. -/
theorem up_after {i : Nat} {oi : Oper} {v : Value} {n : Nat} {l : Array Bool} {a : Act} {w : World} (hr : Region.ready md ops l = [i]) (hzl : l.getD z false = true) (hi : ops[i]? = some oi) (hy : YieldsIf P ops (fun _ => True) oi v a) (h : wpUp P md ops Q S z n (l.setIfInBounds i true) (a.put oi.dst v) w) : wpUp P md ops Q S z (n + 1) l a w := by
  refine ⟨fun h0 => (by rw [hr] at h0; cases h0), fun j hj => ?_⟩
  rw [hr] at hj
  obtain rfl : j = i := by simpa using hj
  exact hy.wpOp hi trivial ⟨fun h0 => (by rw [hzl] at h0; cases h0), h⟩
theorem up_done {n : Nat} {l : Array Bool} {a : Act} {w : World} (hr : Region.ready md ops l = []) (h : Q .normal a w) : wpUp P md ops Q S z n l a w := by
  cases n with
  | zero => exact ⟨hr, h⟩
  | succ n => exact ⟨fun _ => h, by rw [hr]; simp⟩
theorem region_up {id : Nat} {a : Act} {w : World} (z : Nat) (S : World → Prop) (hm : P.follows .mixedOrders = true) (hS : S w.drew) (h : S w.drew → wpUp P .any ops Q S z ops.size (Array.replicate ops.size false) a w.drew) : (Code.region id ops true).wp P Q a w :=
  wp_region_any hm (up_any _ _ _ _ (h hS))
end
end Go.Proofs.YtileidbdmpeciaaGreat

namespace Go.Proofs.YtileidbdmpeciaaGreat
open Go.RowKit
set_option linter.unusedVariables false

theorem byte_nat {x : Int} (hx : 0 ≤ x ∧ x ≤ 255) : x.toNat.toUInt8.toNat = x.toNat := by
  have : x.toNat < 256 := by omega
  simp [Nat.toUInt8, Nat.mod_eq_of_lt this]
theorem byte_lt {x y : Int} (hx : 0 ≤ x ∧ x ≤ 255) (hy : 0 ≤ y ∧ y ≤ 255) : x.toNat.toUInt8 < y.toNat.toUInt8 ↔ x < y := by
  rw [UInt8.lt_iff_toNat_lt, byte_nat hx, byte_nat hy]
  omega
theorem byte_zero {x : Int} (hx : 0 ≤ x ∧ x ≤ 255) : x.toNat.toUInt8 = 0 ↔ x = 0 := by
  rw [← UInt8.toNat_inj, byte_nat hx]
  show x.toNat = 0 ↔ _
  omega
theorem cmp_bytes : ∀ (a b : List Int), (∀ z ∈ a, 0 ≤ z ∧ z ≤ 255) → (∀ z ∈ b, 0 ≤ z ∧ z ≤ 255) → Lib.compareBytes (Lib.bytesOf a) (Lib.bytesOf b) = lexC a b
  | [], [], _, _ => rfl
  | [], _ :: _, _, _ => rfl
  | _ :: _, [], _, _ => rfl
  | a :: r, b :: s, ha, hb => by
    have ih := cmp_bytes r s (fun z hz => ha z (by simp [hz])) (fun z hz => hb z (by simp [hz]))
    have h1 := byte_lt (ha a (by simp)) (hb b (by simp))
    have h2 := byte_lt (hb b (by simp)) (ha a (by simp))
    unfold Lib.bytesOf at ih ⊢
    rw [List.map_cons, List.map_cons]
    unfold Lib.compareBytes lexC
    rw [ih]
    simp only [h1, h2]
theorem idx_zero : ∀ (k : List Int), (∀ z ∈ k, 0 ≤ z ∧ z ≤ 255) → Lib.indexByte (Lib.bytesOf k) 0 = if (txK k).length < k.length then ((txK k).length : Int) else -1
  | [], _ => rfl
  | a :: r, h => by
    have ih := idx_zero r (fun z hz => h z (by simp [hz]))
    have h0 := byte_zero (h a (by simp))
    unfold Lib.bytesOf at ih ⊢
    rw [List.map_cons]
    unfold Lib.indexByte
    rw [ih]
    unfold txK
    rw [List.takeWhile_cons]
    by_cases e : a = 0
    · subst e; simp
    · have e1 : ¬ a.toNat.toUInt8 = 0 := fun x => e (h0.1 x)
      have e2 : (a.toNat.toUInt8 == 0) = false := beq_eq_false_iff_ne.2 e1
      have e3 : (a != 0) = true := bne_iff_ne.2 e
      rw [e2, if_pos e3]
      simp only [Bool.false_eq_true, if_false, List.length_cons]
      generalize (r.takeWhile fun z => z != 0).length = n
      by_cases hl : n < r.length
      · rw [if_pos hl, if_pos (show n + 1 < r.length + 1 by omega), beq_eq_false_iff_ne.2 (show (n : Int) ≠ -1 by omega)]
        simp
      · rw [if_neg hl, if_neg (show ¬ n + 1 < r.length + 1 by omega)]
        rfl
/-- Two keys' bytes, as the library reads them. -/
theorem KeyAt.bytes {w : World} {b : Nat} {k : List Int} (h : KeyAt w b 0 k) (hk : Ky k) (acc : ByteArray) : (Extern.Bytes.loadBytes ⟨b, 0, none⟩ 16 acc).run Tryz.prog w = .ok ⟨acc.data ++ (Lib.bytesOf k).toArray⟩ w := by
  have hl := Lib.run_loadBytesX (P := Tryz.prog) w k ⟨b, 0, none⟩ acc (fun j x hj => by
    have hjl : j < k.length := (List.getElem?_eq_some_iff.1 hj).1
    have e : (⟨b, 0, none⟩ : Addr).add j = ⟨b, j, none⟩ := by unfold Addr.add; split <;> simp_all
    rw [e, h.cell0 j (by rw [← hk.len]; exact hjl), List.getD_eq_getElem?_getD, hj]
    rfl)
  rw [hk.len] at hl
  exact hl
theorem run_cmpKeys (w : World) (p q : Nat) (a b : List Int) (ha : Ky a) (hb : Ky b) (h1 : KeyAt w p 0 a) (h2 : KeyAt w q 0 b) :
    (Extern.BytealgCompare.compare #[.slice (some ⟨p, 0, none⟩) 16 16, .slice (some ⟨q, 0, none⟩) 16 16]).run Tryz.prog w = .ok (.int .i64 (lexC a b)) w := by
  have e1 := h1.bytes ha .empty
  have e2 := h2.bytes hb .empty
  have hs := Lib.run_compareString (P := Tryz.prog) ⟨(Lib.bytesOf a).toArray⟩ ⟨(Lib.bytesOf b).toArray⟩ w
  have he : ∀ l : List Int, (⟨ByteArray.empty.data ++ (Lib.bytesOf l).toArray⟩ : ByteArray) = ⟨(Lib.bytesOf l).toArray⟩ := fun l => by
    apply ByteArray.ext
    show (#[] : Array UInt8) ++ (Lib.bytesOf l).toArray = (Lib.bytesOf l).toArray
    simp
  rw [he] at e1 e2
  change Sem.run Tryz.prog (do pure (goInt (Extern.BytealgCompare.cmp (← Extern.Bytes.bytesOf (.slice (some ⟨p, 0, none⟩) 16 16)) (← Extern.Bytes.bytesOf (.slice (some ⟨q, 0, none⟩) 16 16))))) w = _
  simp only [Extern.Bytes.bytesOf, Sem.run_bind, Sem.run_pure, e1, e2, Result.andThen]
  rw [Lib.cmp_eq]
  simp only [goInt]
  rw [← cmp_bytes a b ha.bytes hb.bytes]
set_option maxRecDepth 100000 in
theorem compare_any (w : World) (p q : Nat) (a b : List Int) (ha : Ky a) (hb : Ky b) (h1 : KeyAt w p 0 a) (h2 : KeyAt w q 0 b) :
    Calls Tryz.prog 153 #[.slice (some ⟨p, 0, none⟩) 16 16, .slice (some ⟨q, 0, none⟩) 16 16] w fun e w' => e = .returned (.int .i64 (lexC a b)) ∧ w' = w := by
  have hx := run_cmpKeys w p q a b ha hb h1 h2
  go_enter Tryz.func153, Tryz.ntmps153
  go_wp2
  rw [run_callFunc_extern Tryz.func164 (by kernel_rfl) (by kernel_rfl) (by kernel_rfl) (e := Extern.BytealgCompare.compare) (by kernel_rfl), hx]
  simp only [Result.andThen]
  rw [Oper.upon_value]
  go_wp2
  go_ret
  exact ⟨rfl, rfl⟩
set_option maxRecDepth 100000 in
theorem bindex_any (w : World) (p : Nat) (k : List Int) (hk : Ky k) (h : KeyAt w p 0 k) :
    Calls Tryz.prog 140 #[.slice (some ⟨p, 0, none⟩) 16 16, .int .u8 0] w fun e w' => e = .returned (.int .i64 (if (txK k).length < 16 then ((txK k).length : Int) else -1)) ∧ w' = w := by
  have hx := Lib.run_indexByteSlice (P := Tryz.prog) w p 0 16 16 k hk.len (fun i hi => h.cell i hi) 0
  have hi := idx_zero k hk.bytes
  rw [hk.len] at hi
  rw [show (0 : Int).toNat.toUInt8 = 0 from rfl, hi] at hx
  generalize (if (txK k).length < 16 then ((txK k).length : Int) else -1) = Z at hx ⊢
  go_enter Tryz.func140, Tryz.ntmps140
  go_wp2
  rw [run_callFunc_extern Tryz.func160 (by kernel_rfl) (by kernel_rfl) (by kernel_rfl) (e := Extern.BytealgIndexByte.indexByte) (by kernel_rfl), hx]
  simp only [Result.andThen]
  rw [Oper.upon_value]
  go_wp2
  go_ret
  exact ⟨rfl, rfl⟩
end Go.Proofs.YtileidbdmpeciaaGreat

namespace Go.Proofs.YtileidbdmpeciaaGreat
open Go.RowKit
set_option linter.unusedVariables false

/-- What Of's rounds hold: what is answered, what is made. -/
structure OfR (w u : World) (K : List Int) : Prop where
  below : Below w.heap.size w u
  res : KeyMine u w.heap.size 0 zeroK
  key : KeyMine u (w.heap.size + 1) 0 K
theorem zero_cells : (kcs zeroK) = #[.int .u8 0, .int .u8 0, .int .u8 0, .int .u8 0, .int .u8 0, .int .u8 0, .int .u8 0, .int .u8 0, .int .u8 0, .int .u8 0, .int .u8 0, .int .u8 0, .int .u8 0, .int .u8 0, .int .u8 0, .int .u8 0] := rfl
theorem OfR.made (w : World) (T : TypeId) : OfR w ((w.alloc (.cells (kcs zeroK) T)).alloc (.cells (kcs zeroK) T)) zeroK := by
  have e1 := KeyMine.made w T zeroK zeroK_ky
  have e2 := KeyMine.made (w.alloc (.cells (kcs zeroK) T)) T zeroK zeroK_ky
  rw [World.size_alloc] at e2
  exact ⟨((Below.refl _ _).alloc (Nat.le_refl _) _).alloc (by simp) _, e1.alloc _, e2⟩
theorem OfR.store {w u : World} {K : List Int} (h : OfR w u K) {k : List Int} (hk : Ky k) : OfR w (u.setCells (w.heap.size + 1) 0 (k.map (Value.int .u8))) k :=
  ⟨below_cells (by omega) h.below, h.res.other (by omega), h.key.store hk⟩
theorem OfR.set {w u : World} {K : List Int} (h : OfR w u K) (n : Nat) (z : Int) (hn : n < 16) (h0 : 0 ≤ z) (h1 : z ≤ 255) : OfR w (u.setCell ⟨w.heap.size + 1, n, none⟩ (.int .u8 z)) (K.set n z) :=
  ⟨h.below.setCell (by show w.heap.size ≤ w.heap.size + 1; omega) _, h.res.aside (by show w.heap.size ≠ w.heap.size + 1; omega), h.key.set n z hn h0 h1⟩
/-- What is answered is laid. -/
structure OfD (w u : World) (K : List Int) : Prop where
  below : Below w.heap.size w u
  lies : KeyAt u w.heap.size 0 K
  ky : Ky K
theorem OfR.done {w u : World} {K : List Int} (h : OfR w u K) {k : List Int} (hk : Ky k) : OfD w (u.setCells w.heap.size 0 (k.map (Value.int .u8))) k :=
  ⟨below_cells (Nat.le_refl _) h.below, (h.res.store hk).lies, hk⟩
set_option maxHeartbeats 1000000 in
theorem rof_any (s : List Int) (hb : ∀ z ∈ s, 0 ≤ z ∧ z ≤ 255) (hm : s.length ≤ 140737488351232) (w : World) :
    Calls Tryz.prog 55 #[.string (strOfNums s)] w fun e w' => e = .returned (.tuple #[kv (ofK s), .bool (mayK s)]) ∧ Below w.heap.size w w' := by
  have H0 : Hid (OfR w ((w.alloc (.cells (kcs zeroK) 38)).alloc (.cells (kcs zeroK) 38)) zeroK) := OfR.made w 38
  rw [zero_cells] at H0
  have HB : Hid (∀ z ∈ s, 0 ≤ z ∧ z ≤ 255) := hb
  have HZ : Hid ((strOfNums s).size = s.length) := strOfNums_size s
  obtain ⟨S, hS⟩ : ∃ S, S = strOfNums s := ⟨_, rfl⟩
  have HS : Hid (S = strOfNums s) := hS
  rw [← hS] at HZ ⊢
  have hl : S.size ≤ 140737488351232 := by rw [HZ.out]; exact hm
  clear hS hb hm
  by_cases hlen : 1 ≤ S.size ∧ S.size ≤ 16
  · obtain ⟨l1, l2⟩ := hlen
    go_enter Tryz.func55, Tryz.ntmps55
    go_wp2_with (have hgo := H0.out; clear hgo; refine wpList_store_keyU (by rfl) _ _ (by rfl) (w.heap.size + 1) 0 zeroK zeroK (by rfl) (by rfl) zeroK_ky H0.out.key ?_; intro u hu; have H1 : Hid (OfR w u zeroK) := hu ▸ H0.out.store zeroK_ky; clear hu H0)
    go_loopw [5] (fun i wr => ∃ n : Nat, n ≤ S.size ∧ i = .int .i64 n ∧ Hid (OfR w wr (keyK (s.take n))) ∧ Hid (∀ z ∈ s.take n, z ≠ 0)) (fun i _ => S.size - (intOf i).toNat)
    case atStart => exact ⟨0, Nat.zero_le _, rfl, by rw [List.take_zero]; exact H1, by intro z hz; simp at hz⟩
    case round =>
      obtain ⟨n, hn, rfl, HW, HN⟩ := hrel
      have h0 : (0 : Int) ≤ (n : Int) := by omega
      have h16 : (n : Int) ≤ 16 := by omega
      by_cases hlt : n < S.size
      · have hlt16 : (n : Int) < 16 := by omega
        have hns : n < s.length := by rw [← HZ.out]; exact hlt
        have hz : ((S[n]'hlt).toNat : Int) = s.getD n 0 := by
          have := nums_at s HB.out n (by rw [← HS.out]; exact hlt)
          simp only [← HS.out] at this
          rw [this]; rfl
        have hbz : 0 ≤ s.getD n 0 ∧ s.getD n 0 ≤ 255 := byte_at HB.out n
        have c0 := HW.out.key.lies.cell0 n (by omega)
        have f0 := HW.out.key.free0 n (by omega)
        obtain ⟨Z, hZ⟩ : ∃ Z, Z = s.getD n 0 := ⟨_, rfl⟩
        obtain ⟨C, hC⟩ : ∃ C, C = (keyK (s.take n)).getD n 0 := ⟨_, rfl⟩
        rw [← hZ] at hz hbz
        rw [← hC] at c0
        have HZZ : Hid (Z = s.getD n 0) := hZ
        have h16n : s.length ≤ 16 := by rw [← HZ.out]; omega
        by_cases z0 : Z = 0
        · subst z0
          have HR : Hid (mayK s = false) := decide_eq_false fun h => h.2.2 (s.getD n 0) (by simp [List.getD, hns]) hZ.symm
          clear hZ hC h16n hns
          go_wp2_with (have hgo := HW.out; clear hgo; refine wpList_store_keyU (by rfl) _ _ (by rfl) w.heap.size 0 zeroK zeroK (by rfl) (by rfl) zeroK_ky HW.out.res ?_; intro u2 hu; have HD : Hid (OfD w u2 zeroK) := hu ▸ HW.out.done zeroK_ky; clear hu HW)
          refine bodyPost_ret (results_key rfl _ _ w.heap.size 0 zeroK rfl HD.out.ky HD.out.lies) rfl ?_
          refine ⟨?_, HD.out.below⟩
          have e : ofK s = zeroK := by unfold ofK; rw [HR.out]; rfl
          rw [e, HR.out]
          rfl
        · have zb : (Z == 0) = false := by simpa using z0
          have HN' : Hid (∀ z ∈ s.take (n + 1), z ≠ 0) := by
            intro z hm
            rw [List.take_add_one, List.mem_append] at hm
            rcases hm with hm | hm
            · exact HN.out z hm
            · have : z = Z := by rw [hZ]; simp [hns] at hm; simp [List.getD, hns, hm]
              rw [this]; exact z0
          have HK : Hid (OfR w (wr.setCell ⟨w.heap.size + 1, n, none⟩ (.int .u8 Z)) (keyK (s.take (n + 1)))) := by
            rw [keyK_next hns h16n, ← hZ]
            exact HW.out.set n Z (by omega) hbz.1 hbz.2
          clear hZ hC h16n hns z0
          go_wp2
          go_roundw
          case rel => exact ⟨n + 1, by omega, by go_num, HK, HN'⟩
          case measure => simp [intOf]; omega
      · have hns : n = s.length := by rw [← HZ.out]; omega
        have hst : s.take n = s := List.take_of_length_le (by omega)
        have HR : Hid (mayK s = true) := decide_eq_true ⟨by rw [← HZ.out]; exact l1, by rw [← HZ.out]; exact l2, by rw [← hst]; exact HN.out⟩
        have HW' : Hid (OfR w wr (keyK s)) := by rw [← hst]; rw [hst]; exact hst ▸ HW
        have HY : Hid (Ky (keyK s)) := keyK_ky (by rw [← HZ.out]; exact l2) HB.out
        clear hns hst HW HN
        go_wp2_with (first | (have hgo := HW'.out; clear hgo; refine wpList_load_key (by rfl) _ (by rfl) (w.heap.size + 1) 0 (by rfl) (keyK s) HY.out HW'.out.key.lies ?_) | (have hgo := HW'.out; clear hgo; refine wpList_store_keyU (by rfl) _ _ (by rfl) w.heap.size 0 zeroK (keyK s) (by rfl) (by rfl) HY.out HW'.out.res ?_; intro u2 hu; have HD : Hid (OfD w u2 (keyK s)) := hu ▸ HW'.out.done HY.out; clear hu HW'))
        refine bodyPost_ret (results_key rfl _ _ w.heap.size 0 (keyK s) rfl HD.out.ky HD.out.lies) rfl ?_
        refine ⟨?_, HD.out.below⟩
        have e : ofK s = keyK s := by unfold ofK; rw [HR.out]; rfl
        rw [e, HR.out]
        rfl
  · have HR : Hid (mayK s = false) := decide_eq_false fun h => hlen ⟨by rw [HZ.out]; exact h.1, by rw [HZ.out]; exact h.2.1⟩
    have hcase : S.size = 0 ∨ 16 < S.size := by omega
    clear hlen
    rcases hcase with hc | hc
    all_goals
      go_enter Tryz.func55, Tryz.ntmps55
      go_wp2_with (first | (have hgo := H0.out; clear hgo; refine wpList_store_keyU (by rfl) _ _ (by rfl) (w.heap.size + 1) 0 zeroK zeroK (by rfl) (by rfl) zeroK_ky H0.out.key ?_; intro u hu; have H1 : Hid (OfR w u zeroK) := hu ▸ H0.out.store zeroK_ky; clear hu H0) | (have hgo := H1.out; clear hgo; refine wpList_load_key (by rfl) _ (by rfl) (w.heap.size + 1) 0 (by rfl) zeroK zeroK_ky H1.out.key.lies ?_) | (have hgo := H1.out; clear hgo; refine wpList_store_keyU (by rfl) _ _ (by rfl) w.heap.size 0 zeroK zeroK (by rfl) (by rfl) zeroK_ky H1.out.res ?_; intro u2 hu; have HD : Hid (OfD w u2 zeroK) := hu ▸ H1.out.done zeroK_ky; clear hu H1))
      refine bodyPost_ret (results_key rfl _ _ w.heap.size 0 zeroK rfl HD.out.ky HD.out.lies) rfl ?_
      refine ⟨?_, HD.out.below⟩
      have e : ofK s = zeroK := by unfold ofK; rw [HR.out]; rfl
      rw [e, HR.out]
      rfl
end Go.Proofs.YtileidbdmpeciaaGreat

namespace Go.Proofs.YtileidbdmpeciaaGreat
open Go.RowKit
open Go.Sort (grow grow_grow alloc_eq_grow)
set_option linter.unusedVariables false

set_option maxHeartbeats 1000000 in
/-- Cmp, and all that it leaves. -/
theorem kcmp_to (a b : List Int) (ha : Ky a) (hb : Ky b) (w : World) :
    Calls Tryz.prog 121 #[kv a, kv b] w fun e w' => e = .returned (.int .i64 (lexC a b)) ∧ ∃ q, w' = ((w.alloc (.cells (kcs a) 38)).alloc (.cells (kcs b) 38)).drewN q := by
  have HA : Hid (KeyAt ((w.alloc (.cells (kcs a) 38)).alloc (.cells (kcs b) 38)) w.heap.size 0 a) := (KeyAt.made w 38 a ha).alloc _
  have HC : Hid (KeyAt ((w.alloc (.cells (kcs a) 38)).alloc (.cells (kcs b) 38)) (w.heap.size + 1) 0 b) := by
    have := KeyAt.made (w.alloc (.cells (kcs a) 38)) 38 b hb
    rw [World.size_alloc] at this
    exact this
  have CC : Hid (∀ u, u.heap = ((w.alloc (.cells (kcs a) 38)).alloc (.cells (kcs b) 38)).heap → Calls Tryz.prog 153 #[.slice (some ⟨w.heap.size, 0, none⟩) 16 16, .slice (some ⟨w.heap.size + 1, 0, none⟩) 16 16] u fun e w' => e = .returned (.int .i64 (lexC a b)) ∧ w' = u) :=
    fun u hu => compare_any u _ _ a b ha hb (HA.out.same hu) (HC.out.same hu)
  clear ha hb HA HC
  go_enter Tryz.func121, Tryz.ntmps121
  go_wp2
  go_quiet ((go_at_call 153; refine Calls.quiet_of_same (CC.out _ rfl)))
  go_wp2
  go_ret
  exact ⟨rfl, _, rfl⟩
theorem kcmp_any (a b : List Int) (ha : Ky a) (hb : Ky b) (w : World) :
    Calls Tryz.prog 121 #[kv a, kv b] w fun e w' => e = .returned (.int .i64 (lexC a b)) ∧ Below w.heap.size w w' :=
  (kcmp_to a b ha hb w).mono fun e w' ⟨h1, q, h2⟩ => ⟨h1, by rw [h2]; exact below_dN (((Below.refl _ _).alloc (Nat.le_refl _) _).alloc (by simp) _) q⟩
theorem ktlen_any (k : List Int) (hk : Ky k) (w : World) :
    Calls Tryz.prog 101 #[kv k] w fun e w' => e = .returned (.int .i64 ((txK k).length : Int)) ∧ Below w.heap.size w w' := by
  have HA : Hid (KeyAt (w.alloc (.cells (kcs k) 38)) w.heap.size 0 k) := KeyAt.made w 38 k hk
  have HB : Hid (Below w.heap.size w (w.alloc (.cells (kcs k) 38))) := (Below.refl _ _).alloc (Nat.le_refl _) _
  have CI := bindex_any _ _ k hk HA.out
  have hle : (txK k).length ≤ 16 := by rw [← hk.len]; exact txK_le k
  generalize (txK k).length = T at CI hle ⊢
  clear hk HA
  by_cases h : T < 16
  · rw [if_pos h] at CI
    have h0 : (0 : Int) ≤ (T : Int) := by omega
    go_enter Tryz.func101, Tryz.ntmps101
    go_wp2_with (go_at_call 140; refine CI.mono ?_; rintro e w1 ⟨rfl, rfl⟩)
    go_ret
    exact ⟨rfl, HB.out⟩
  · rw [if_neg h] at CI
    obtain rfl : T = 16 := by omega
    go_enter Tryz.func101, Tryz.ntmps101
    go_wp2_with (go_at_call 140; refine CI.mono ?_; rintro e w1 ⟨rfl, rfl⟩)
    go_ret
    exact ⟨rfl, HB.out⟩
theorem good_tx {k : List Int} (hk : Ky k) : goodK k = true ↔ ((txK k).length ≠ 0 ∧ ∀ i, (txK k).length ≤ i → i < 16 → k.getD i 0 = 0) := by
  have hl := hk.len
  have h1 : (txK k).length ≠ 0 ↔ k.getD 0 0 ≠ 0 := by
    cases k with
    | nil => simp at hl
    | cons a r =>
      by_cases ha : a = 0
      · simp [txK, ha]
      · simp [txK, ha]
  have h2 : (∀ z ∈ k.drop (txK k).length, z = 0) ↔ ∀ i, (txK k).length ≤ i → i < 16 → k.getD i 0 = 0 := by
    constructor
    · intro h i h3 h4
      refine h _ ?_
      have e : k.getD i 0 = (k.drop (txK k).length)[i - (txK k).length]'(by simp; omega) := by
        rw [List.getElem_drop]
        have : i < k.length := by omega
        simp [List.getD, this, show (txK k).length + (i - (txK k).length) = i by omega]
      rw [e]
      exact List.getElem_mem _
    · intro h z hz
      obtain ⟨j, hj, rfl⟩ := List.getElem_of_mem hz
      simp at hj
      rw [List.getElem_drop]
      have := h ((txK k).length + j) (by omega) (by omega)
      have e : (txK k).length + j < k.length := by omega
      simpa [List.getD, e] using this
  unfold goodK
  rw [decide_eq_true_iff, h1, h2]
set_option maxHeartbeats 1000000 in
theorem kgood_any (k : List Int) (hk : Ky k) (w : World) :
    Calls Tryz.prog 52 #[kv k] w fun e w' => e = .returned (.bool (goodK k)) ∧ Below w.heap.size w w' := by
  have HK : Hid (Ky k) := hk
  have CT : Hid (∀ u, Calls Tryz.prog 101 #[kv k] u fun e w' => e = .returned (.int .i64 ((txK k).length : Int)) ∧ Below u.heap.size u w') := fun u => ktlen_any k hk u
  have HA : Hid (KeyAt (w.alloc (.cells (kcs k) 38)) w.heap.size 0 k) := KeyAt.made w 38 k hk
  have HB : Hid (Below w.heap.size w (w.alloc (.cells (kcs k) 38))) := (Below.refl _ _).alloc (Nat.le_refl _) _
  have hle : (txK k).length ≤ 16 := by rw [← hk.len]; exact txK_le k
  have HG : Hid (goodK k = true ↔ ((txK k).length ≠ 0 ∧ ∀ i, (txK k).length ≤ i → i < 16 → k.getD i 0 = 0)) := good_tx hk
  generalize (txK k).length = T at CT HG hle
  clear hk
  by_cases hT : T = 0
  · subst hT
    have HR : Hid (goodK k = false) := by
      show _ = _
      cases hg : goodK k
      · rfl
      · exact absurd rfl (HG.out.1 hg).1
    go_enter Tryz.func52, Tryz.ntmps52
    go_wp2_with (first | (refine wpList_load_key (by rfl) _ (by rfl) w.heap.size 0 (by rfl) k HK.out HA.out ?_) | (go_at_call 101; refine (CT.out _).mono ?_; rintro e w1 ⟨rfl, hb1⟩; have HB1 : Hid (Below w.heap.size w w1) := HB.out.trans (hb1.mono HB.out.size); clear hb1))
    go_ret
    exact ⟨by rw [HR.out]; rfl, HB1.out⟩
  · have h0 : (0 : Int) ≤ (T : Int) := by omega
    have h16 : (T : Int) ≤ 16 := by omega
    have hb0 : ((T : Int) == 0) = false := by simpa using hT
    by_cases hT2 : T = 16
    · have HR : Hid (goodK k = true) := HG.out.2 ⟨hT, fun i h1 h2 => by omega⟩
      subst hT2
      clear hT
      go_enter Tryz.func52, Tryz.ntmps52
      go_wp2_with (first | (refine wpList_load_key (by rfl) _ (by rfl) w.heap.size 0 (by rfl) k HK.out HA.out ?_) | (go_at_call 101; refine (CT.out _).mono ?_; rintro e w1 ⟨rfl, hb1⟩; have HA1 : Hid (KeyAt w1 w.heap.size 0 k) := HA.out.past hb1; have HB1 : Hid (Below w.heap.size w w1) := HB.out.trans (hb1.mono HB.out.size); clear hb1))
      refine wp_loop_rounds 1 ?_
      rw [rounds_succ]
      go_wp2
      go_ret
      exact ⟨by rw [HR.out]; rfl, HB1.out⟩
    · have hne : ¬ 16 = T := fun h => hT2 h.symm
      have hlt : T < 16 := by omega
      have HT0 : Hid (¬ T = 0) := hT
      clear hT hT2
      go_enter Tryz.func52, Tryz.ntmps52
      go_wp2_with (first | (refine wpList_load_key (by rfl) _ (by rfl) w.heap.size 0 (by rfl) k HK.out HA.out ?_) | (go_at_call 101; refine (CT.out _).mono ?_; rintro e w1 ⟨rfl, hb1⟩; have HA1 : Hid (KeyAt w1 w.heap.size 0 k) := HA.out.past hb1; have HB1 : Hid (Below w.heap.size w w1) := HB.out.trans (hb1.mono HB.out.size); clear hb1))
      go_loop [13] (fun i => ∃ n : Nat, n ≤ 16 - T ∧ i = .int .i64 n ∧ Hid (∀ i, T ≤ i → i < T + n → k.getD i 0 = 0)) (fun i => 16 - T - (intOf i).toNat)
      case atStart => exact ⟨0, Nat.zero_le _, rfl, by intro i h1 h2; omega⟩
      case round =>
        obtain ⟨n, hn, rfl, HZ⟩ := hrel
        have hn0 : (0 : Int) ≤ (n : Int) := by omega
        by_cases hlt2 : n < 16 - T
        · have hc := HA1.out.cell0 (T + n) (by omega)
          have hb := HK.out.at (T + n)
          have h1 : (n : Int) < ((16 - T : Nat) : Int) := by omega
          obtain ⟨Z, hZ⟩ : ∃ Z, Z = k.getD (T + n) 0 := ⟨_, rfl⟩
          rw [← hZ] at hc hb
          by_cases hz : Z = 0
          · subst hz
            have HZ' : Hid (∀ i, T ≤ i → i < T + (n + 1) → k.getD i 0 = 0) := by
              intro i h2 h3
              by_cases h4 : i < T + n
              · exact HZ.out i h2 h4
              · obtain rfl : i = T + n := by omega
                exact hZ.symm
            clear hZ
            go_wp2
            go_round
            case rel => exact ⟨n + 1, by omega, by go_num, HZ'⟩
            case measure => simp [intOf]; omega
          · have hzb : (Z != 0) = true := bne_iff_ne.2 hz
            have HR : Hid (goodK k = false) := by
              show _ = _
              cases hg : goodK k
              · rfl
              · exact absurd (hZ.trans ((HG.out.1 hg).2 (T + n) (by omega) (by omega))) hz
            clear hZ hz
            go_wp2
            go_ret
            exact ⟨by rw [HR.out]; rfl, HB1.out⟩
        · obtain rfl : n = 16 - T := by omega
          have HR : Hid (goodK k = true) := HG.out.2 ⟨HT0.out, fun i h1 h2 => HZ.out i h1 (by omega)⟩
          have h1 : ¬ ((16 - T : Nat) : Int) < ((16 - T : Nat) : Int) := by omega
          go_wp2
          go_ret
          exact ⟨by rw [HR.out]; rfl, HB1.out⟩
end Go.Proofs.YtileidbdmpeciaaGreat

