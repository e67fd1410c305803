/-
  Writes (a key, a value, whether it is gone) and items (a key, a value) in memory: loaded and stored whole, lists of them.
  Regions that draw their order and whose last operation writes what the others read: what holds behind every operation is asked as long as one is left.
-/
import Derived.Test.YtpnjcflfnoamoaaGreatPm
import Derived.Test.YtpnjcflfnoamoaaGreatAu3
import Derived.Test.YtpnjcflfnoamoaaGreatAu37
import Derived.Test.YtpnjcflfnoamoaaGreatProg
import Derived.WalkKit
import Derived.Deep.RegionHeld3
namespace Go.Proofs.YtpnjcflfnoamoaaGreat
open Go.RowKit
set_option linter.unusedVariables false

/-- A write's cells. -/
def encW (W : Wrt) : List Value := kc W.k ++ [.string (strOfNums W.v), .bool W.g]
abbrev wv (W : Wrt) : Value := .agg (encW W).toArray
structure WrtOk (W : Wrt) : Prop where
  key : Ky W.k
  val : ∀ z ∈ W.v, 0 ≤ z ∧ z ≤ 255
  few : W.v.length ≤ maxLen
theorem encW_len {W : Wrt} (h : Ky W.k) : (encW W).length = 18 := by unfold encW; rw [List.length_append, kc_len h]; rfl
theorem encW_one (W : Wrt) : ∀ u ∈ encW W, u.oneCell' = true := by
  intro u hu
  unfold encW at hu
  rcases List.mem_append.1 hu with e | e
  · exact ints_oneCell _ _ u e
  · simp at e
    rcases e with rfl | rfl <;> rfl
theorem encW_all (W : Wrt) : (encW W).toArray.all (·.oneCell') = true := all_oneCell_toArray (encW_one W)
structure WrtAt (w : World) (b o : Nat) (W : Wrt) : Prop where
  lies : Lies w (some ⟨b, o, none⟩) (encW W)
theorem WrtAt.key {w : World} {b o : Nat} {W : Wrt} (h : WrtAt w b o W) (hk : Ky W.k) : KeyAt w b o W.k := by
  refine ⟨fun j hj => h.lies.at j _ ?_⟩
  have hl := hk.len
  unfold encW
  rw [List.getElem?_append_left (by rw [kc_len hk]; exact hj)]
  simp [kc, List.getD, show j < W.k.length by omega]
theorem WrtAt.cells {w : World} {b o : Nat} {W : Wrt} (h : WrtAt w b o W) (hk : Ky W.k) : w.cell? ⟨b, o + 16, none⟩ = some (.string (strOfNums W.v)) ∧ w.cell? ⟨b, o + 17, none⟩ = some (.bool W.g) := by
  have hl := kc_len hk
  refine ⟨h.lies.at 16 _ ?_, h.lies.at 17 _ ?_⟩ <;> (unfold encW; rw [List.getElem?_append_right (by omega), hl]; rfl)
theorem WrtAt.past {w w' : World} {b o : Nat} {W : Wrt} (h : WrtAt w b o W) (hb : Below w.heap.size w w') : WrtAt w' b o W := ⟨h.lies.past hb⟩
theorem WrtAt.lt {w : World} {b o : Nat} {W : Wrt} (h : WrtAt w b o W) (hk : Ky W.k) : b < w.heap.size := cell_lt (h.cells hk).1
theorem info_wrt : (Tryz.prog.info? 95).map (·.size) = some 18 := by kernel_rfl
/-- One write in memory of the call's own. -/
structure WrtMine (w : World) (b o : Nat) (W : Wrt) : Prop where
  at_ : WrtAt w b o W
  free : ∀ i, i < 18 → w.frozen? ⟨b, o + i, none⟩ = false
  key : Ky W.k
theorem WrtMine.made (w : World) (T : TypeId) (W : Wrt) (hk : Ky W.k) : WrtMine (w.alloc (.cells (encW W).toArray T)) w.heap.size 0 W :=
  ⟨⟨lies_made w (encW W).toArray T⟩, fun i hi => World.frozen?_alloc_new _ _ _ _, hk⟩
theorem WrtMine.past {w w' : World} {b o : Nat} {W : Wrt} (h : WrtMine w b o W) (hb : Below w.heap.size w w') : WrtMine w' b o W :=
  ⟨h.at_.past hb, fun i hi => by rw [hb.frozen (p := ⟨b, o + i, none⟩) (h.at_.lt h.key)]; exact h.free i hi, h.key⟩
theorem WrtAt.range {w : World} {b o : Nat} {W : Wrt} (h : WrtAt w b o W) : w.rangeAt b o (encW W) := h.lies.range
theorem WrtMine.there {w : World} {b o : Nat} {W : Wrt} (h : WrtMine w b o W) : w.there b o 18 := fun j hj => by
  have hl := encW_len h.key
  obtain ⟨u, hu⟩ : ∃ u, (encW W)[j]? = some u := ⟨_, List.getElem?_eq_getElem (by omega)⟩
  exact ⟨by rw [h.at_.lies.at j u hu]; rfl, h.free j hj⟩
theorem WrtMine.store {w : World} {b o : Nat} {W W' : Wrt} (h : WrtMine w b o W) (hk : Ky W'.k) : WrtMine (w.setCells b o (encW W')) b o W' := by
  have ht := h.there
  rw [← encW_len hk] at ht
  exact ⟨⟨lies_of (World.rangeAt_setCells_same w b o (encW W') ht)⟩, fun i hi => by rw [World.frozen?_setCells]; exact h.free i hi, hk⟩
theorem wpList_load_wrt (d : Tmp) {ops : Array Oper} {rest : List Oper} {op : Oper} {a : Act} {w : World} {Q : Exit → Act → World → Prop} (hd : op.dst = some d) (hw : Region.wanted op (yielded ops a.tmps) = true) (x : Operand) (ho : op.op = .load 95 x)
    (b o : Nat) (hx : a.eval x = .pointer (some ⟨b, o, none⟩)) (W : Wrt) (hk : Ky W.k) (hat : WrtAt w b o W)
    (h : wpList Tryz.prog ops Q rest (a.put op.dst (wv W)) w) : wpList Tryz.prog ops Q (op :: rest) a w :=
  wpList_step fun K hK => by
    rw [if_pos hw]
    exact wp_load_mid 95 x ho b o hx (encW W) _ hat.range Tryz.underlying95 rfl (by rw [info_wrt, encW_len hk]) (hK _ _ h)
theorem wpList_store_wrt (d : Operand) {ops : Array Oper} {rest : List Oper} {op : Oper} {a : Act} {w : World} {Q : Exit → Act → World → Prop} (hgd : op.guard = none) (y : Operand) (ho : op.op = .store 95 d y)
    (b o : Nat) (W W' : Wrt) (hx : a.eval d = .pointer (some ⟨b, o, none⟩)) (hy : a.eval y = wv W') (hk : Ky W'.k) (hat : WrtMine w b o W)
    (h : ∀ u, u = w.setCells b o (encW W') → wpList Tryz.prog ops Q rest (a.put op.dst undef) u) : wpList Tryz.prog ops Q (op :: rest) a w := by
  have hl : (encW W').toArray.size = 18 := by simp [encW_len hk]
  refine wpList_store_mid hgd 95 d y ho b o (encW W').toArray hx hy (by rw [hl]; exact hat.there) (by rw [info_wrt, hl]) (encW_all W') ?_
  exact h _ rfl
def zeroW : Wrt := ⟨zeroK, [], false⟩
theorem zeroW_ky : Ky zeroW.k := zeroK_ky
theorem zeroW_cells : (encW zeroW).toArray = #[.int .u8 0, .int .u8 0, .int .u8 0, .int .u8 0, .int .u8 0, .int .u8 0, .int .u8 0, .int .u8 0, .int .u8 0, .int .u8 0, .int .u8 0, .int .u8 0, .int .u8 0, .int .u8 0, .int .u8 0, .int .u8 0, .string ⟨#[]⟩, .bool false] := rfl
/-- A new block that a write is laid into. -/
theorem laid_wrt (w : World) (T : TypeId) {W : Wrt} (hk : Ky W.k) : WrtMine ((w.alloc (.cells (encW zeroW).toArray T)).setCells w.heap.size 0 (encW W)) w.heap.size 0 W ∧ Below w.heap.size w ((w.alloc (.cells (encW zeroW).toArray T)).setCells w.heap.size 0 (encW W)) ∧ ((w.alloc (.cells (encW zeroW).toArray T)).setCells w.heap.size 0 (encW W)).heap.size = w.heap.size + 1 :=
  ⟨(WrtMine.made w T zeroW zeroW_ky).store hk, below_cells (Nat.le_refl _) ((Below.refl _ _).alloc (Nat.le_refl _) _), by rw [size_cells]; simp⟩
/-- Writes that lie one behind the other. -/
structure WrtsAt (w : World) (a : Option Addr) (l : List Wrt) : Prop where
  cells : l = [] ∨ ∃ b o, a = some ⟨b, o, none⟩ ∧ ∀ i W, l[i]? = some W → WrtAt w b (o + i * 18) W
  oks : ∀ W ∈ l, WrtOk W
theorem WrtsAt.past {w w' : World} {a : Option Addr} {l : List Wrt} (h : WrtsAt w a l) (hb : Below w.heap.size w w') : WrtsAt w' a l :=
  ⟨h.cells.imp id (fun ⟨b, o, e, hc⟩ => ⟨b, o, e, fun i W hW => (hc i W hW).past hb⟩), h.oks⟩
theorem WrtsAt.wrt {w : World} {a : Option Addr} {l : List Wrt} (h : WrtsAt w a l) {i : Nat} {W : Wrt} (hW : l[i]? = some W) : ∃ b o, a = some ⟨b, o, none⟩ ∧ WrtAt w b (o + i * 18) W ∧ WrtOk W := by
  rcases h.cells with rfl | ⟨b, o, e, hc⟩
  · simp at hW
  · exact ⟨b, o, e, hc i W hW, h.oks W (List.mem_of_getElem? hW)⟩
/-- An item's cells. -/
abbrev Itm := List Int × List Int
def encI (x : Itm) : List Value := kc x.1 ++ [.string (strOfNums x.2)]
abbrev iv (x : Itm) : Value := .agg (encI x).toArray
structure ItmOk (x : Itm) : Prop where
  key : Ky x.1
  val : ∀ z ∈ x.2, 0 ≤ z ∧ z ≤ 255
  few : x.2.length ≤ 1000000
theorem encI_len {x : Itm} (h : Ky x.1) : (encI x).length = 17 := by unfold encI; rw [List.length_append, kc_len h]; rfl
structure ItmAt (w : World) (b o : Nat) (x : Itm) : Prop where
  lies : Lies w (some ⟨b, o, none⟩) (encI x)
theorem ItmAt.key {w : World} {b o : Nat} {x : Itm} (h : ItmAt w b o x) (hk : Ky x.1) : KeyAt w b o x.1 := by
  refine ⟨fun j hj => h.lies.at j _ ?_⟩
  have hl := hk.len
  unfold encI
  rw [List.getElem?_append_left (by rw [kc_len hk]; exact hj)]
  simp [kc, List.getD, show j < x.1.length by omega]
theorem ItmAt.cell {w : World} {b o : Nat} {x : Itm} (h : ItmAt w b o x) (hk : Ky x.1) : w.cell? ⟨b, o + 16, none⟩ = some (.string (strOfNums x.2)) := by
  have hl := kc_len hk
  refine h.lies.at 16 _ ?_
  unfold encI; rw [List.getElem?_append_right (by omega), hl]; rfl
theorem ItmAt.past {w w' : World} {b o : Nat} {x : Itm} (h : ItmAt w b o x) (hb : Below w.heap.size w w') : ItmAt w' b o x := ⟨h.lies.past hb⟩
/-- Items that lie one behind the other. -/
structure ItmsAt (w : World) (a : Option Addr) (l : List Itm) : Prop where
  cells : l = [] ∨ ∃ b o, a = some ⟨b, o, none⟩ ∧ ∀ i x, l[i]? = some x → ItmAt w b (o + i * 17) x
  oks : ∀ x ∈ l, ItmOk x
theorem ItmsAt.past {w w' : World} {a : Option Addr} {l : List Itm} (h : ItmsAt w a l) (hb : Below w.heap.size w w') : ItmsAt w' a l :=
  ⟨h.cells.imp id (fun ⟨b, o, e, hc⟩ => ⟨b, o, e, fun i x hx => (hc i x hx).past hb⟩), h.oks⟩
theorem ItmsAt.itm {w : World} {a : Option Addr} {l : List Itm} (h : ItmsAt w a l) {i : Nat} {x : Itm} (hx : l[i]? = some x) : ∃ b o, a = some ⟨b, o, none⟩ ∧ ItmAt w b (o + i * 17) x ∧ ItmOk x := by
  rcases h.cells with rfl | ⟨b, o, e, hc⟩
  · simp at hx
  · exact ⟨b, o, e, hc i x hx, h.oks x (List.mem_of_getElem? hx)⟩
end Go.Proofs.YtpnjcflfnoamoaaGreat

namespace Go.Proofs.YtpnjcflfnoamoaaGreat
open Go Go.RowKit
set_option linter.unusedVariables false

section
variable {P : Program} {ops : Array Oper} {Q : Exit → Act → World → Prop} {md : Region.Mode} {S : World → Prop} {z : Nat}
/-- Whatever order is picked from here on; S holds behind each operation but number z. -/
def wpTill (P : Program) (md : Region.Mode) (ops : Array Oper) (Q : Exit → Act → World → Prop) (S : World → Prop) (z : Nat) : Nat → Array Bool → Act → World → Prop
  | 0, l, a, w => Region.ready md ops l = [] ∧ Q .normal a w
  | n + 1, l, a, w => (Region.ready md ops l = [] → Q .normal a w) ∧
    ∀ i ∈ Region.ready md ops l, wpOp P ops Q i (fun a' w' => (i ≠ z → S w') ∧ wpTill P md ops Q S z n (l.setIfInBounds i true) a' w') a w
theorem till_any : ∀ (n : Nat) (l : Array Bool) (a : Act) (w : World), wpTill P md ops Q S z n l a w → wpAny P md ops Q n l a w
  | 0, _, _, _, h => h
  | n + 1, _, _, _, h => ⟨h.1, fun i hi => wpOp_mono (fun a' w' h' => till_any n _ a' w' h'.2) (h.2 i hi)⟩
/-- Does number z wait for number i? -/
def waits (md : Region.Mode) (ops : Array Oper) (z i : Nat) : Bool := match ops[z]? with | none => false | some o => o.after.any fun e => Region.binds md e && e.on == i
theorem waits_listed {z i : Nat} {oz : Oper} {l : Array Bool} (h : waits md ops z i = true) (ho : ops[z]? = some oz) (hall : ∀ e ∈ oz.after, Region.binds md e = true → l.getD e.on false = true) : l.getD i false = true := by
  unfold waits at h
  rw [ho] at h
  simp only [Array.any_eq_true] at h
  obtain ⟨k, hk, hb⟩ := h
  simp at hb
  have := hall oz.after[k] (Array.getElem_mem hk) hb.1
  rw [hb.2] at this
  exact this
theorem till_first {i k : Nat} {oi : Oper} {v : Value} (hz : waits md ops z k = true) (hki : k = i ∨ waits md ops k i = true) (hi : ops[i]? = some oi) (hsel : ∀ (j : Nat) (o : Oper) cs b, ops[j]? = some o → o.op ≠ .select cs b) (hQ : ∀ c a w, Q (.panic c) (a.put oi.dst v) w → Q (.panic c) a w) :
    ∀ (n : Nat) (l : Array Bool) (a : Act) (w : World), (∀ j oj, ops[j]? = some oj → j ≠ i → l.getD j true = false → (∀ e ∈ oj.after, Region.binds md e = true → e.on ≠ i) → oi.apart ops oj = true) →
      l.getD k false = false → i ∈ Region.ready md ops l → YieldsIf P ops S oi v a → S w → wpTill P md ops Q S z n (l.setIfInBounds i true) (a.put oi.dst v) w → wpTill P md ops Q S z (n + 1) l a w := by
  intro n
  induction n with
  | zero =>
    intro l a w _ _ hr hy hS H
    refine ⟨fun h => (by rw [h] at hr; cases hr), fun j hj => ?_⟩
    by_cases hji : j = i
    · rw [hji]; exact hy.wpOp hi hS ⟨fun _ => hS, H⟩
    · have h0 := ready_mono hj hji
      rw [H.1] at h0
      cases h0
  | succ n ih =>
    intro l a w hfree hkl hr hy hS H
    refine ⟨fun h => (by rw [h] at hr; cases hr), fun j hj => ?_⟩
    by_cases hji : j = i
    · rw [hji]; exact hy.wpOp hi hS ⟨fun _ => hS, H⟩
    · obtain ⟨hun, oj, hoj, hall⟩ := mem_ready.1 hj
      have hnot : ∀ e ∈ oj.after, Region.binds md e = true → e.on ≠ i := fun e he hb heq => by
        have h1 := hall e he hb
        have h0 := (mem_ready.1 hr).1
        rw [heq] at h1
        rcases Nat.lt_or_ge i l.size with h' | h'
        · simp [h'] at h0 h1; rw [h0] at h1; cases h1
        · simp [Array.getElem?_eq_none h'] at h1
      have h2 := wpOp_putIf hoj (hfree j oj hoj hji hun hnot) (fun cs b => hsel i oi cs b hi) (fun cs b => hsel j oj cs b hoj) hQ hy (H.2 j (ready_mono hj hji))
      have hfree' : ∀ k ok, ops[k]? = some ok → k ≠ i → (l.setIfInBounds j true).getD k true = false → (∀ e ∈ ok.after, Region.binds md e = true → e.on ≠ i) → oi.apart ops ok = true := fun k ok hk hki hu hno => by
        refine hfree k ok hk hki ?_ hno
        by_cases hjk : j = k
        · rw [← hjk]; exact hun
        · rw [getD_set_ne true hjk] at hu; exact hu
      have hri := ready_mono hr (Ne.symm hji)
      have hjz : j ≠ z := fun e => by
        subst e
        have := waits_listed hz hoj hall
        rw [hkl] at this; cases this
      have hjk : j ≠ k := fun e => by
        rcases hki with e2 | e2
        · exact hji (e.trans e2)
        · subst e
          have h1 := waits_listed e2 hoj hall
          have h0 := (mem_ready.1 hr).1
          rcases Nat.lt_or_ge i l.size with h' | h'
          · simp [h'] at h0 h1; rw [h0] at h1; cases h1
          · simp [Array.getElem?_eq_none h'] at h1
      have hkl' : (l.setIfInBounds j true).getD k false = false := by rw [getD_set_ne false hjk]; exact hkl
      have hcomm : (l.setIfInBounds i true).setIfInBounds j true = (l.setIfInBounds j true).setIfInBounds i true := Array.setIfInBounds_comm _ _ (Ne.symm hji)
      refine wpOp_mono (fun a' w' h3 => ?_) h2
      rw [hcomm] at h3
      have hS' := h3.2.1 hjz
      exact ⟨fun _ => hS', ih (l.setIfInBounds j true) a' w' hfree' hkl' hri h3.1 hS' h3.2.2⟩
/-- Take number i first. -/
theorem till_take {i : Nat} {oi : Oper} {v : Value} {n : Nat} {l : Array Bool} {a : Act} {w : World} (k : Nat) (hz : waits md ops z k = true) (hki : k = i ∨ waits md ops k i = true) (hkl : l.getD k false = false) (hi : ops[i]? = some oi) (hs : Region.noSelect ops = true) (hf : Region.free md ops l i = true) (hr : (Region.ready md ops l).contains i = true)
    (hQ : ∀ c a w, Q (.panic c) (a.put oi.dst v) w → Q (.panic c) a w) (hy : YieldsIf P ops S oi v a) (hS : S w) (h : wpTill P md ops Q S z n (l.setIfInBounds i true) (a.put oi.dst v) w) : wpTill P md ops Q S z (n + 1) l a w :=
  till_first hz hki hi (Region.noSelect_spec hs) hQ n l a w (Region.free_spec hi hf) hkl (by simpa using hr) hy hS h
/-- Each of those that may come up comes up. -/
def AllTill (P : Program) (md : Region.Mode) (ops : Array Oper) (Q : Exit → Act → World → Prop) (S : World → Prop) (z : Nat) (n : Nat) (l : Array Bool) (a : Act) (w : World) (rs : List Nat) : Prop :=
  ∀ i ∈ rs, wpOp P ops Q i (fun a' w' => (i ≠ z → S w') ∧ wpTill P md ops Q S z n (l.setIfInBounds i true) a' w') a w
theorem AllTill.nil {n : Nat} {l : Array Bool} {a : Act} {w : World} : AllTill P md ops Q S z n l a w [] := fun _ h => by cases h
theorem AllTill.cons {n : Nat} {l : Array Bool} {a : Act} {w : World} {i : Nat} {o : Oper} {rs : List Nat} (ho : ops[i]? = some o)
    (h : ∀ K : Act → World → Prop, Hid (∀ a w, S w → (S w → wpTill P md ops Q S z n (l.setIfInBounds i true) a w) → K a w) → if Region.wanted o (yielded ops a.tmps) = true then Oper.wp P o a w K Q else K (a.put o.dst undef) w)
    (hs : AllTill P md ops Q S z n l a w rs) : AllTill P md ops Q S z n l a w (i :: rs) := fun j hj => by
  rcases List.mem_cons.1 hj with rfl | hj
  · exact wpOp_step ho (fun K hK => h K (fun a w hS hW => hK a w ⟨fun _ => hS, hW hS⟩))
  · exact hs j hj
theorem till_ready {rs : List Nat} {n : Nat} {l : Array Bool} {a : Act} {w : World} (hr : Region.ready md ops l = rs) (hne : rs ≠ []) (h : AllTill P md ops Q S z n l a w rs) : wpTill P md ops Q S z (n + 1) l a w := ⟨fun h0 => absurd (hr ▸ h0) hne, hr ▸ h⟩
/-- The last one: nothing is asked behind it but the end. -/
theorem till_last {n : Nat} {l : Array Bool} {a : Act} {w : World} {o : Oper} (hr : Region.ready md ops l = [z]) (hr' : Region.ready md ops (l.setIfInBounds z true) = []) (ho : ops[z]? = some o)
    (h : ∀ K : Act → World → Prop, Hid (∀ a w, Q .normal a w → K a w) → if Region.wanted o (yielded ops a.tmps) = true then Oper.wp P o a w K Q else K (a.put o.dst undef) w) : wpTill P md ops Q S z (n + 1) l a w := by
  refine ⟨(fun h0 => by rw [hr] at h0; cases h0), fun i hi => ?_⟩
  rw [hr] at hi
  obtain rfl : i = z := by simpa using hi
  refine wpOp_step ho (fun K hK => h K (fun a w hq => hK a w ⟨fun hne => absurd rfl hne, ?_⟩))
  cases n with
  | zero => exact ⟨hr', hq⟩
  | succ n => exact ⟨fun _ => hq, by rw [hr']; simp⟩
theorem region_till {id : Nat} {a : Act} {w : World} (z : Nat) (S : World → Prop) (hm : P.follows .mixedOrders = true) (hS : S w.drew) (h : S w.drew → wpTill P .any ops Q S z ops.size (Array.replicate ops.size false) a w.drew) : (Code.region id ops true).wp P Q a w :=
  wp_region_any hm (till_any _ _ _ _ (h hS))
end
end Go.Proofs.YtpnjcflfnoamoaaGreat

