/-
  Records in bytes, read piece by piece with a bound for each: the same as chapter 14's own reading. No program is named here.
  Stores in bytes, as chapter 15 tells it: what is written, how it is read; what is written is read back, and nothing else has its bytes. No program is named here.
  Regions whose last operation waits for the others by way of others: who comes first may be taken first.
  Lists of versions cut in two; one version as a list.
  One version more (hourglassref10: Store.Put).
-/
import Derived.Test.YtpnjcflfnoamoaaGreatAu38
import Derived.Test.YtpnjcflfnoamoaaGreatStoPlain
import Derived.Test.YtpnjcflfnoamoaaGreatAu29
import Derived.Test.YtpnjcflfnoamoaaGreatAu3
import Derived.Deep.Slices
namespace Go.Proofs.YtpnjcflfnoamoaaGreat
set_option linter.unusedVariables false

def flagP : Pr Bool := seqP (countP 1) fun v => retP (decide (v = 1))
def txtP : Pr (List Int) := seqP (countP 200) fun n => bytesP n
abbrev Bys (zs : List Int) : Prop := ∀ z ∈ zs, 0 ≤ z ∧ z ≤ 255
theorem Bys.drop {zs : List Int} (h : Bys zs) (n : Nat) : Bys (zs.drop n) := fun z hz => h z (List.mem_of_mem_drop hz)
/-- What is left of bytes is bytes. -/
def Keeps {α : Type} (p : Pr α) : Prop := ∀ zs a r, Bys zs → p zs = some (a, r) → Bys r
theorem Keeps.seq {α β : Type} {p : Pr α} {f : α → Pr β} (hp : Keeps p) (hf : ∀ a, Keeps (f a)) : Keeps (seqP p f) := by
  intro zs b r hz h
  cases e : p zs with
  | none => rw [seq_none e] at h; simp at h
  | some x =>
    obtain ⟨a, s⟩ := x
    rw [seq_some e] at h
    exact hf a _ _ _ (hp _ _ _ hz e) h
theorem Keeps.ret {α : Type} (a : α) : Keeps (retP a) := by
  intro zs b r hz h
  simp [retP] at h
  obtain ⟨_, rfl⟩ := h
  exact hz
theorem Keeps.no {α : Type} : Keeps (noneP (α := α)) := by intro zs b r hz h; simp [noneP] at h
theorem ite_keeps {α : Type} (c : Prop) [Decidable c] {p q : Pr α} (hp : Keeps p) (hq : Keeps q) : Keeps (if c then p else q) := by
  by_cases h : c
  · rw [if_pos h]; exact hp
  · rw [if_neg h]; exact hq
theorem numP_keeps : Keeps numP := by
  intro zs a r hz h
  unfold numP at h
  by_cases e : (Pl.getI zs).2.2 = 0
  · rw [if_pos e] at h
    simp only [Option.some.injEq, Prod.mk.injEq] at h
    rw [← h.2]
    exact hz.drop _
  · rw [if_neg e] at h; simp at h
theorem countP_keeps (n : Int) : Keeps (countP n) := numP_keeps.seq fun c => ite_keeps _ .no (.ret _)
theorem flagP_keeps : Keeps flagP := (countP_keeps 1).seq fun _ => .ret _
theorem stampP_keeps : Keeps stampP := numP_keeps.seq fun c => ite_keeps _ (.ret _) .no

theorem getF_ge (f : Nat) : ∀ (X : Int) (k : Nat) (zs : List Int), 1 ≤ k → 0 ≤ X → Bys zs → (Pl.getF f X k zs).2.2 = 0 → (2 : Int) ^ (7 * k) ≤ (Pl.getF f X k zs).1 := by
  induction f with
  | zero => intro X k zs _ _ _ h; simp [Pl.getF] at h
  | succ f ih =>
    intro X k zs hk hX hz h
    cases zs with
    | nil => simp [Pl.getF] at h
    | cons c r =>
      have hc := hz c (by simp)
      have hp : (0 : Int) < 2 ^ (7 * k) := Int.pow_pos (by omega)
      by_cases h1 : c < 128
      · by_cases hg : Pl.goodB c k = true
        · rw [Pl.get_end h1 hg]
          show 2 ^ (7 * k) ≤ X + c * 2 ^ (7 * k)
          have h0 : c ≠ 0 := by
            intro e
            unfold Pl.goodB at hg
            rw [e] at hg
            simp at hg
            omega
          have : 1 * 2 ^ (7 * k) ≤ c * 2 ^ (7 * k) := Int.mul_le_mul_of_nonneg_right (by omega) (by omega)
          omega
        · rw [Pl.get_bad h1 (by simpa using hg)] at h; simp at h
      · rw [Pl.get_more (by omega)] at h ⊢
        have h0 : 0 ≤ c % 128 * 2 ^ (7 * k) := Int.mul_nonneg (by omega) (by omega)
        have := ih _ (k + 1) r (by omega) (by omega) (fun z hz' => hz z (by simp [hz'])) h
        refine Int.le_trans ?_ this
        have e : (2 : Int) ^ (7 * (k + 1)) = 2 ^ (7 * k) * 128 := by rw [show 7 * (k + 1) = 7 * k + 7 by omega, Int.pow_add]; rfl
        rw [e]; omega
theorem flag_bool {zs : List Int} (h : Bys zs) : flagP zs = boolP zs := by
  cases zs with
  | nil => rfl
  | cons c r =>
    have hc := h c (by simp)
    unfold boolP
    rw [seq_some (show byteP (c :: r) = some (c, r) from rfl)]
    by_cases h1 : c < 128
    · have e : numP (c :: r) = some (c, r) := by
        unfold numP Pl.getI
        rw [Pl.get_end h1 (by simp [Pl.goodB])]
        simp
      unfold flagP countP
      by_cases h2 : 1 < c
      · rw [if_pos h2, seq_none]; · rfl
        rw [seq_some e, if_pos h2]; rfl
      · rw [if_neg h2, seq_some (a := c) (r := r)]
        rw [seq_some e, if_neg h2]; rfl
    · rw [if_pos (by omega)]
      refine seq_none ?_
      cases e : numP (c :: r) with
      | none => exact seq_none e
      | some x =>
        obtain ⟨v, s⟩ := x
        have hv : 1 < v := by
          unfold numP at e
          by_cases e0 : (Pl.getI (c :: r)).2.2 = 0
          · rw [if_pos e0] at e
            simp only [Option.some.injEq, Prod.mk.injEq] at e
            have e1 := e.1
            unfold Pl.getI at e0 e1
            rw [Pl.get_more (by omega)] at e0 e1
            have := getF_ge 9 _ 1 r (by omega) (by simp; omega) (fun z hz' => h z (by simp [hz'])) e0
            rw [← e1]
            simp at this ⊢
            omega
          · rw [if_neg e0] at e; simp at e
        unfold countP
        rw [seq_some e, if_pos hv]; rfl
/-- Read the same, with a bound. -/
theorem txt_text {zs r v : List Int} (h : txtP zs = some (v, r)) : textP zs = some (v, r) ∧ v.length ≤ 200 := by
  unfold txtP countP at h
  cases e : numP zs with
  | none => rw [seq_none (seq_none e)] at h; simp at h
  | some x =>
    obtain ⟨n, s⟩ := x
    by_cases hn : 200 < n
    · rw [seq_none (by rw [seq_some e, if_pos hn]; rfl)] at h; simp at h
    · rw [seq_some (by rw [seq_some e, if_neg hn]; rfl)] at h
      refine ⟨by unfold textP; rw [seq_some e]; exact h, ?_⟩
      unfold bytesP at h
      by_cases c : (s.length : Int) < n
      · rw [if_pos c] at h; simp at h
      · rw [if_neg c] at h
        simp only [Option.some.injEq, Prod.mk.injEq] at h
        rw [← h.1, List.length_take]; omega
theorem text_txt {zs r v : List Int} (h0 : Bys zs) (h : textP zs = some (v, r)) (hv : v.length ≤ 200) : txtP zs = some (v, r) := by
  unfold textP at h
  cases e : numP zs with
  | none => rw [seq_none e] at h; simp at h
  | some x =>
    obtain ⟨n, s⟩ := x
    rw [seq_some e] at h
    have hn : ¬ 200 < n := by
      unfold bytesP at h
      by_cases c : (s.length : Int) < n
      · rw [if_pos c] at h; simp at h
      · rw [if_neg c] at h
        simp only [Option.some.injEq, Prod.mk.injEq] at h
        rw [← h.1, List.length_take] at hv; omega
    unfold txtP countP
    rw [seq_some (by rw [seq_some e, if_neg hn]; rfl)]
    exact h
theorem putI_bytes (v : Int) (h0 : 0 ≤ v) (h1 : v ≤ 18446744073709551615) : Bys (Pl.putI v) := Pl.put_bytes 9 v (Pl.fits_start v h0 h1)
theorem Bys.app {a b : List Int} (ha : Bys a) (hb : Bys b) : Bys (a ++ b) := fun z hz => (List.mem_append.1 hz).elim (ha z) (hb z)
end Go.Proofs.YtpnjcflfnoamoaaGreat

namespace Go.Proofs.YtpnjcflfnoamoaaGreat
set_option linter.unusedVariables false

/-! ### Writing -/
def verB (V : Ver) : List Int := stpB V.t V.n ++ flagB V.g :: txtB V.v
def chainB (l : List Ver) : List Int := Pl.putI l.length ++ l.flatMap verB
def keyB (L : List Ver) (k : List Int) : List Int := k ++ chainB (chainV L k)
def storeB (L : List Ver) : List Int := Pl.putI (keysV L).length ++ (keysV L).flatMap (keyB L)

/-! ### Reading -/
def aboveV (p : Option (Int × Int)) (t n : Int) : Bool := match p with
  | none => true
  | some x => decide (0 < cmpS t n x.1 x.2)
def verP (k : List Int) (p : Option (Int × Int)) : Pr Ver := seqP stampP fun s => seqP boolP fun g => seqP textP fun v => if (mayV ⟨k, s.1, s.2, v, g⟩ && aboveV p s.1 s.2) = true then retP ⟨k, s.1, s.2, v, g⟩ else noneP
def versP (k : List Int) : Nat → Option (Int × Int) → Pr (List Ver)
  | 0, _ => retP []
  | n + 1, p => seqP (verP k p) fun V => seqP (versP k n (some (V.t, V.n))) fun l => retP (V :: l)
def aboveK (p : Option (List Int)) (k : List Int) : Bool := match p with
  | none => true
  | some x => decide (0 < lexC k x)
def mayKey (p : Option (List Int)) (k : List Int) (m : Int) : Bool := goodK k && aboveK p k && decide (m ≠ 0)
def keysP : Nat → Option (List Int) → Pr (List Ver)
  | 0, _ => retP []
  | n + 1, p => seqP (bytesP 16) fun k => seqP (countP 50) fun m => if mayKey p k m = true then seqP (versP k m.toNat none) fun l => seqP (keysP n (some k)) fun L => retP (l ++ L) else noneP
def storeP : Pr (List Ver) := seqP (countP 200) fun n => keysP n.toNat none
/-- A store of bytes; none: what is no store. -/
def getS (zs : List Int) : Option (List Ver) := match storeP zs with
  | some (L, []) => some L
  | _ => none
/-- All its keys may be. -/
def GdK (L : List Ver) : Prop := ∀ V ∈ L, goodK V.k = true

/-! ### What is written is read back -/
theorem ver_back (V : Ver) (p : Option (Int × Int)) (r : List Int) (hm : mayV V = true) (hn : 0 ≤ V.n ∧ V.n ≤ 255) (ha : aboveV p V.t V.n = true) : verP V.k p (verB V ++ r) = some (V, r) := by
  have hm' := hm
  unfold mayV at hm'
  simp only [Bool.and_eq_true, decide_eq_true_eq] at hm'
  unfold verP verB
  rw [List.append_assoc, List.cons_append, seq_some (stamp_back _ _ _ hm'.1.1 hn.1 hn.2), seq_some (bool_back _ _), seq_some (text_back _ _ (by have := hm'.1.2; omega)), if_pos (by rw [hm, ha]; rfl)]
  rfl
theorem vers_back (k : List Int) : ∀ (l : List Ver) (p : Option (Int × Int)) (r : List Int), (∀ V ∈ l, V.k = k ∧ mayV V = true ∧ 0 ≤ V.n ∧ V.n ≤ 255) → Ups l → (∀ V, l.head? = some V → aboveV p V.t V.n = true) → versP k l.length p (l.flatMap verB ++ r) = some (l, r)
  | [], p, r, _, _, _ => rfl
  | V :: l, p, r, h, hu, ha => by
    obtain ⟨h1, h2, h3⟩ := h V (by simp)
    obtain ⟨u1, u2⟩ := List.pairwise_cons.1 hu
    rw [List.flatMap_cons, List.append_assoc, List.length_cons]
    show seqP (verP k p) _ _ = _
    rw [← h1, seq_some (ver_back V p _ h2 h3 (ha V rfl)), h1, seq_some (vers_back k l (some (V.t, V.n)) r (fun X hX => h X (by simp [hX])) u2 (fun X hX => ?_))]
    · rfl
    · have hm : X ∈ l := List.mem_of_head? hX
      show decide (0 < cmpS X.t X.n V.t V.n) = true
      exact decide_eq_true (cmp_pos.2 (u1 X hm))
theorem keys_back (L : List Ver) : ∀ (ks : List (List Int)) (p : Option (List Int)) (r : List Int), (∀ k ∈ ks, Ky k ∧ goodK k = true ∧ 1 ≤ (chainV L k).length ∧ (chainV L k).length ≤ 50 ∧ (∀ V ∈ chainV L k, V.k = k ∧ mayV V = true ∧ 0 ≤ V.n ∧ V.n ≤ 255) ∧ Ups (chainV L k)) → ks.Pairwise (fun a b => lexC a b = -1) → (∀ k, ks.head? = some k → aboveK p k = true) → keysP ks.length p (ks.flatMap (keyB L) ++ r) = some (ks.flatMap (chainV L), r)
  | [], p, r, _, _, _ => rfl
  | k :: ks, p, r, h, hu, ha => by
    obtain ⟨h1, h2, h3, h4, h5, h6⟩ := h k (by simp)
    obtain ⟨u1, u2⟩ := List.pairwise_cons.1 hu
    rw [List.flatMap_cons, List.append_assoc, List.length_cons]
    show seqP (bytesP 16) _ _ = _
    unfold keyB
    rw [List.append_assoc, seq_some (bytes_back _ _ _ (by rw [h1.len]; rfl))]
    unfold chainB
    rw [List.append_assoc, seq_some (count_back _ (by omega) (by omega) (by omega)), if_pos (by unfold mayKey; rw [h2, ha k rfl, decide_eq_true (by omega)]; rfl), Int.toNat_natCast, seq_some (vers_back k (chainV L k) none _ h5 h6 (fun _ _ => rfl))]
    show seqP (keysP ks.length (some k)) _ (ks.flatMap (keyB L) ++ r) = _
    rw [seq_some (keys_back L ks (some k) r (fun x hx => h x (by simp [hx])) u2 (fun x hx => ?_))]
    · rfl
    · have hm : x ∈ ks := List.mem_of_head? hx
      show decide (0 < lexC x k) = true
      have := u1 x hm
      rw [lexC_swap k x, this]
      decide
theorem ups_of {L : List Ver} (h : OrdK L) (k : List Int) : Ups (chainV L k) := by
  have h1 := ups_chain h k
  unfold oneV Ups at h1
  rw [List.pairwise_map] at h1
  exact h1
theorem keys_ready {L : List Ver} (h : StoG L) (hg : GdK L) : ∀ k ∈ keysV L, Ky k ∧ goodK k = true ∧ 1 ≤ (chainV L k).length ∧ (chainV L k).length ≤ 50 ∧ (∀ V ∈ chainV L k, V.k = k ∧ mayV V = true ∧ 0 ≤ V.n ∧ V.n ≤ 255) ∧ Ups (chainV L k) := by
  intro k hk
  obtain ⟨V, hV, e⟩ := (keys_mem L k).1 hk
  have hc : V ∈ chainV L k := (chain_mem h.sto.ord).2 ⟨hV, e⟩
  refine ⟨h.keys k hk, by rw [← e]; exact hg V hV, List.length_pos_of_mem hc, by rw [chain_len]; exact h.sto.few k, fun X hX => ?_, ups_of h.sto.ord k⟩
  obtain ⟨h1, h2⟩ := (chain_mem h.sto.ord).1 hX
  have := h.sto.ins X h1
  exact ⟨h2, h.sto.may X h1, this.1, this.2.1⟩
theorem store_back {L : List Ver} (h : StoG L) (hg : GdK L) (r : List Int) : storeP (storeB L ++ r) = some (L, r) := by
  unfold storeP storeB
  rw [List.append_assoc, seq_some (count_back _ (by omega) (by have := h.few; omega) (by omega)), Int.toNat_natCast, keys_back L (keysV L) none r (keys_ready h hg) (keys_up h.sto.ord) (fun _ _ => rfl), flat_keys h.sto.ord]
theorem getS_back {L : List Ver} (h : StoG L) (hg : GdK L) : getS (storeB L) = some L := by
  have h1 := store_back h hg []
  rw [List.append_nil] at h1
  unfold getS
  rw [h1]
/-! ### What is read is a store -/
/-! ### Calls keep it -/
theorem gdk_apply {L : List Ver} (h : StoG L) (hg : GdK L) {t n : Int} {l : List Wrt} : GdK (applyV L t n l).2 := by
  by_cases h0 : (applyV L t n l).1 = 0
  · obtain ⟨e, e1, e2, e3, e4, e5⟩ := apply_ok h0
    obtain ⟨m1, m2, m3, _⟩ := may_w (n := n) e3 e4
    have hrun : ∀ (l : List Wrt) (L : List Ver) (f : Bool), GdK L → (∀ W ∈ l, goodK W.k = true) → GdK (runW t n l L f).2.1 := by
      intro l
      induction l with
      | nil => intro L f hL _; exact hL
      | cons W r ih =>
        intro L f hL hW
        rw [run_step]
        by_cases h5 : (putV L (verW t n W)).1 = 5
        · rw [if_pos h5]; exact hL
        · rw [if_neg h5]
          refine ih _ _ (fun X hX => ?_) (fun X hX => hW X (by simp [hX]))
          rcases mem_put hX with e | ⟨rfl, _⟩
          · exact hL X e
          · exact hW W (by simp)
    rw [e]
    exact hrun l L false hg m3
  · rw [apply_bad h0]; exact hg
theorem gdk_rest {L : List Ver} (hg : GdK L) (t n : Int) : GdK (restV L t n) := fun V hV => hg V (List.mem_filter.1 hV).1
/-! ### How long -/
theorem ver_len {V : Ver} (h : mayV V = true) : (verB V).length ≤ 221 := by
  unfold mayV at h
  simp only [Bool.and_eq_true, decide_eq_true_eq] at h
  have h1 := h.1.2
  have h2 : (Pl.putI (if okS V.t then V.t * 256 + V.n else 0)).length ≤ 10 := Pl.put_length_le 9 _
  have h3 : (Pl.putI (V.v.length : Int)).length ≤ 10 := Pl.put_length_le 9 _
  unfold verB stpB txtB
  simp only [List.length_append, List.length_cons]
  omega
theorem vers_len : ∀ (l : List Ver), (∀ V ∈ l, mayV V = true) → (l.flatMap verB).length ≤ 221 * l.length
  | [], _ => by simp
  | V :: l, h => by
    have h1 := ver_len (h V (by simp))
    have h2 := vers_len l (fun X hX => h X (by simp [hX]))
    rw [List.flatMap_cons, List.length_append, List.length_cons]
    omega
theorem keysB_len (L : List Ver) : ∀ (ks : List (List Int)), (∀ k ∈ ks, Ky k ∧ ∀ V ∈ chainV L k, mayV V = true) → (ks.flatMap (keyB L)).length ≤ 26 * ks.length + 221 * (ks.flatMap (chainV L)).length
  | [], _ => by simp
  | k :: ks, h => by
    have h1 := keysB_len L ks (fun x hx => h x (by simp [hx]))
    have h2 := vers_len (chainV L k) (h k (by simp)).2
    have h3 : (Pl.putI ((chainV L k).length : Int)).length ≤ 10 := Pl.put_length_le 9 _
    have h4 := (h k (by simp)).1.len
    have h5 : (keyB L k).length ≤ 26 + 221 * (chainV L k).length := by
      unfold keyB chainB
      rw [List.length_append, List.length_append]
      omega
    rw [List.flatMap_cons, List.flatMap_cons, List.length_append, List.length_append, List.length_cons]
    omega
theorem storeB_len {L : List Ver} (h : StoG L) (hg : GdK L) : (storeB L).length ≤ 6000 + 221 * L.length := by
  have hk := keys_ready h hg
  have h1 := keysB_len L (keysV L) (fun k hk' => ⟨(hk k hk').1, fun V hV => ((hk k hk').2.2.2.2.1 V hV).2.1⟩)
  rw [flat_keys h.sto.ord] at h1
  have h2 := h.few
  have h3 : (Pl.putI ((keysV L).length : Int)).length ≤ 10 := Pl.put_length_le 9 _
  unfold storeB
  rw [List.length_append]
  omega
end Go.Proofs.YtpnjcflfnoamoaaGreat

namespace Go.Proofs.YtpnjcflfnoamoaaGreat
open Go Go.RowKit
set_option linter.unusedVariables false

section
variable {P : Program} {ops : Array Oper} {Q : Exit → Act → World → Prop} {md : Region.Mode} {S : World → Prop} {z : Nat}
/-- Number z waits for number i by way of others: z for the first, each for the next, the last for i. -/
def chainW (md : Region.Mode) (ops : Array Oper) : Nat → Nat → List Nat → Bool
  | z, i, [] => waits md ops z i
  | z, i, k :: r => waits md ops z k && chainW md ops k i r
theorem chain_free {i j : Nat} {oj : Oper} {l : Array Bool} (hi : l.getD i false = false) (hoj : ops[j]? = some oj) (hall : ∀ e ∈ oj.after, Region.binds md e = true → l.getD e.on false = true) : ∀ (ps : List Nat) (z : Nat), chainW md ops z i ps = true → (∀ k ∈ ps, l.getD k false = false) → j ≠ z ∧ ∀ k ∈ ps, j ≠ k
  | [], z, hc, _ => by
    refine ⟨fun e => ?_, fun k hk => by simp at hk⟩
    subst e
    have := waits_listed hc hoj hall
    rw [hi] at this; cases this
  | k :: r, z, hc, hu => by
    unfold chainW at hc
    simp only [Bool.and_eq_true] at hc
    obtain ⟨h1, h2⟩ := chain_free hi hoj hall r k hc.2 (fun k' hk' => hu k' (List.mem_cons_of_mem _ hk'))
    refine ⟨fun e => ?_, fun k' hk' => ?_⟩
    · subst e
      have := waits_listed hc.1 hoj hall
      rw [hu k (by simp)] at this; cases this
    · rcases List.mem_cons.1 hk' with rfl | hk'
      · exact h1
      · exact h2 k' hk'
theorem till_firstP {i : Nat} {oi : Oper} {v : Value} (ps : List Nat) (hz : chainW md ops z i ps = true) (hi : ops[i]? = some oi) (hsel : ∀ (j : Nat) (o : Oper) cs b, ops[j]? = some o → o.op ≠ .select cs b) (hQ : ∀ c a w, Q (.panic c) (a.put oi.dst v) w → Q (.panic c) a w) :
    ∀ (n : Nat) (l : Array Bool) (a : Act) (w : World), (∀ j oj, ops[j]? = some oj → j ≠ i → l.getD j true = false → (∀ e ∈ oj.after, Region.binds md e = true → e.on ≠ i) → oi.apart ops oj = true) →
      (∀ k ∈ ps, l.getD k false = false) → i ∈ Region.ready md ops l → YieldsIf P ops S oi v a → S w → wpTill P md ops Q S z n (l.setIfInBounds i true) (a.put oi.dst v) w → wpTill P md ops Q S z (n + 1) l a w := by
  intro n
  induction n with
  | zero =>
    intro l a w _ _ hr hy hS H
    refine ⟨fun h => (by rw [h] at hr; cases hr), fun j hj => ?_⟩
    by_cases hji : j = i
    · rw [hji]; exact hy.wpOp hi hS ⟨fun _ => hS, H⟩
    · have h0 := ready_mono hj hji
      rw [H.1] at h0
      cases h0
  | succ n ih =>
    intro l a w hfree hkl hr hy hS H
    refine ⟨fun h => (by rw [h] at hr; cases hr), fun j hj => ?_⟩
    by_cases hji : j = i
    · rw [hji]; exact hy.wpOp hi hS ⟨fun _ => hS, H⟩
    · obtain ⟨hun, oj, hoj, hall⟩ := mem_ready.1 hj
      have hiu : l.getD i false = false := by
        have h0 := (mem_ready.1 hr).1
        rcases Nat.lt_or_ge i l.size with h' | h'
        · simp [h'] at h0 ⊢; exact h0
        · simp [Array.getElem?_eq_none h']
      have hnot : ∀ e ∈ oj.after, Region.binds md e = true → e.on ≠ i := fun e he hb heq => by
        have h1 := hall e he hb
        rw [heq, hiu] at h1
        cases h1
      have h2 := wpOp_putIf hoj (hfree j oj hoj hji hun hnot) (fun cs b => hsel i oi cs b hi) (fun cs b => hsel j oj cs b hoj) hQ hy (H.2 j (ready_mono hj hji))
      have hfree' : ∀ k ok, ops[k]? = some ok → k ≠ i → (l.setIfInBounds j true).getD k true = false → (∀ e ∈ ok.after, Region.binds md e = true → e.on ≠ i) → oi.apart ops ok = true := fun k ok hk hki hu hno => by
        refine hfree k ok hk hki ?_ hno
        by_cases hjk : j = k
        · rw [← hjk]; exact hun
        · rw [getD_set_ne true hjk] at hu; exact hu
      have hri := ready_mono hr (Ne.symm hji)
      obtain ⟨hjz, hjps⟩ := chain_free hiu hoj hall ps z hz hkl
      have hkl' : ∀ k ∈ ps, (l.setIfInBounds j true).getD k false = false := fun k hk => by rw [getD_set_ne false (hjps k hk)]; exact hkl k hk
      have hcomm : (l.setIfInBounds i true).setIfInBounds j true = (l.setIfInBounds j true).setIfInBounds i true := Array.setIfInBounds_comm _ _ (Ne.symm hji)
      refine wpOp_mono (fun a' w' h3 => ?_) h2
      rw [hcomm] at h3
      have hS' := h3.2.1 hjz
      exact ⟨fun _ => hS', ih (l.setIfInBounds j true) a' w' hfree' hkl' hri h3.1 hS' h3.2.2⟩
/-- Take number i first, whom z waits for by way of others. -/
theorem till_takeP {i : Nat} {oi : Oper} {v : Value} {n : Nat} {l : Array Bool} {a : Act} {w : World} (ps : List Nat) (hz : chainW md ops z i ps = true) (hkl : ps.all (fun k => !(l.getD k false)) = true) (hi : ops[i]? = some oi) (hs : Region.noSelect ops = true) (hf : Region.free md ops l i = true) (hr : (Region.ready md ops l).contains i = true)
    (hQ : ∀ c a w, Q (.panic c) (a.put oi.dst v) w → Q (.panic c) a w) (hy : YieldsIf P ops S oi v a) (hS : S w) (h : wpTill P md ops Q S z n (l.setIfInBounds i true) (a.put oi.dst v) w) : wpTill P md ops Q S z (n + 1) l a w :=
  till_firstP ps hz hi (Region.noSelect_spec hs) hQ n l a w (Region.free_spec hi hf) (fun k hk => by simpa using List.all_eq_true.1 hkl k hk) (by simpa using hr) hy hS h
end
end Go.Proofs.YtpnjcflfnoamoaaGreat

namespace Go.Proofs.YtpnjcflfnoamoaaGreat
open Go.RowKit
set_option linter.unusedVariables false

def dropV (a : Option Addr) (cap k : Nat) : Option Addr := match a with | none => none | some ad => if cap = k then some ad else some (ad.add (k * 20))
theorem dropV_none {a : Option Addr} {cap k : Nat} (h : dropV a cap k = none) : a = none := by
  cases a with
  | none => rfl
  | some ad => simp only [dropV] at h; split at h <;> cases h
theorem lies_dropV {u : World} {a : Option Addr} {cap k : Nat} {xs : List Ver} (ha : ∀ ad, a = some ad → ∃ bb, ad = ⟨bb, 0, none⟩) (h : Lies u a (xs.flatMap encV)) (ho : OkL xs) (hl : xs.length ≤ cap) : Lies u (dropV a cap k) ((xs.drop k).flatMap encV) := by
  by_cases hc : cap = k
  · have : xs.drop k = [] := List.drop_eq_nil_of_le (by omega)
    rw [this]; exact lies_nil _ _
  · cases a with
    | none => exact lies_none _ _
    | some ad =>
      obtain ⟨bb, rfl⟩ := ha ad rfl
      have := h.dropped (k * 20)
      rw [flat_drop xs k ho.len] at this
      show Lies u (if cap = k then some ⟨bb, 0, none⟩ else some ((⟨bb, 0, none⟩ : Addr).add (k * 20))) _
      rw [if_neg hc, addr_add]
      exact this
theorem run_build_ver (w : World) (V : Ver) (hk : Ky V.k) :
    (Instr.buildSlice 63 1 #[(0, vv V)]).run Tryz.prog w = .ok (.slice (some ⟨w.heap.size, 0, none⟩) 1 1) (w.alloc (.cells (encV V).toArray 67)) := by
  have hl := enc_len hk
  have hf : Instr.fill (fun i => some (i * 20, 20)) (encV zeroV).toArray [(0, vv V)] = some (encV V).toArray := by
    rw [fill_step _ (encV zeroV) 0 0 20 (encV V) rfl hl (by rw [enc_len zeroV_ky]; omega)]
    show some _ = some _
    congr 2
    rw [List.drop_eq_nil_of_le (by rw [enc_len zeroV_ky]; omega)]
    simp
  simp [Instr.buildSlice, run_underlying Tryz.underlying63]
  generalize hz : Array.map _ (Array.range 20) = Z
  have hz2 : Z = (encV zeroV).toArray := by rw [← hz]; kernel_rfl
  rw [hz2, hf]
  simp [newRow]
theorem step_build_ver {w : World} {ops : Array Oper} {o : Oper} {a : Act} {K : Act → World → Prop} {Q : Exit → Act → World → Prop} {E : Prop} (hgd : o.guard = none) (x : Operand) (ho : o.op = .buildSlice 63 1 #[(0, x)]) (V : Ver) (hk : Ky V.k) (hx : a.eval x = vv V)
    (h : K (a.put o.dst (.slice (some ⟨w.heap.size, 0, none⟩) 1 1)) (w.alloc (.cells (encV V).toArray 67))) : if Region.wanted o (yielded ops a.tmps) = true then Oper.wp Tryz.prog o a w K Q else E := by
  have hw : Region.wanted o (yielded ops a.tmps) = true := by simp [Region.wanted, hgd]
  rw [if_pos hw]
  have hrun := run_build_ver w V hk
  unfold Oper.wp
  simp [execOp, ho, hx, hrun, Result.andThen]
  exact h
end Go.Proofs.YtpnjcflfnoamoaaGreat

namespace Go.Proofs.YtpnjcflfnoamoaaGreat
open Go.RowKit
set_option linter.unusedVariables false

theorem info_verl (V : Ver) (h : Ky V.k) : (Tryz.prog.info? 67).map (·.size) = some (encV V).length := by rw [info_ver, enc_len h]
/-- The store's list has turned. -/
theorem StoreR.turn {w u : World} {B p : Nat} {L L' : List Ver} {a : Option Addr} {c n : Nat} (h : StoreR w B p L) (hb : Below w.heap.size w u) (hn : L'.length = n) (ho : u.ownsRow w.heap.size 67 20 (.slice a n c) n (L'.flatMap encV)) (hB : B ≤ w.heap.size) (hok : OkL L') (hf : n ≤ 1000000) :
    StoreR (u.setCell ⟨p, 0, none⟩ (.slice a n c)) B p L' ∧ Chg w (u.setCell ⟨p, 0, none⟩ (.slice a n c)) (fun k => k = p) := by
  subst hn
  obtain ⟨a0, c0, h1, _, _⟩ := h.list
  have hp := (hb.cell (p := ⟨p, 0, none⟩) h.lt).trans h1
  have hne : ∀ k, (Value.slice a L'.length c).ownBlock = some k → k ≠ p := fun k e => by have := (ho.lt k e).1; have := h.lt; omega
  refine ⟨⟨by rw [World.size_setCell]; exact Nat.lt_of_lt_of_le h.lt hb.size, h.lo, ⟨a, c, World.cell?_setCell_same _ _ _ hp, ?_, hne⟩, by rw [World.frozen?_setCell]; exact (hb.frozen (p := ⟨p, 0, none⟩) h.lt).trans h.free, hok, hf⟩, (Chg.of_below hb _).trans (Chg.set u ⟨p, 0, none⟩ _ (X := fun k => k = p) rfl) (fun _ _ x => x)⟩
  obtain ⟨hl, h0 | ⟨g, cap, cur, hv, hg, hh, r⟩⟩ := ho
  · exact ⟨hl, .inl h0⟩
  · refine ⟨hl, .inr ⟨g, cap, cur, hv, Nat.le_trans hB hg, ?_, r⟩⟩
    rw [Below.heap_setCell _ ⟨p, 0, none⟩ _ g (fun e => by have := h.lt; have e' : g = p := e; omega)]
    exact hh
end Go.Proofs.YtpnjcflfnoamoaaGreat

