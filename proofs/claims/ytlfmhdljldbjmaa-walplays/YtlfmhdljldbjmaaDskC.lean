/-
  What the landed package disk answers and leaves, in the words that the layers above lean on.
-/
import Derived.Test.YtlfmhdljldbjmaaDskApp
import Derived.Test.YtlfmhdljldbjmaaDskCrash
namespace Go.Proofs.Ytlfmhdljldbjmaa
open Go.RowKit
set_option linter.unusedVariables false

theorem dknew_ok (room : Int) (w : World) (h1 : 64 ≤ room) (h2 : room ≤ 1048576) :
    Calls Try.prog 10 #[.int .i64 room] w fun e w' => ∃ b X, e = .returned (.tuple #[.pointer (some ⟨b, 0, none⟩), .int .i64 0]) ∧ DiskD w' b (newDS room) X ∧ Below w.heap.size w w' ∧ ∀ k, X k → w.heap.size ≤ k := dnew_ok room w h1 h2
theorem dkcrash_any (b : Nat) (S : DS) (X : Foot) (keep torn : Int) (w : World) (h : DiskD w b S X) (hz : sizeN S.fs ≤ 1048576) (hk0 : -9223372036854775808 ≤ keep) (hk1 : keep ≤ 9223372036854775807) (ht : 0 ≤ torn ∧ torn ≤ 255) :
    Calls Try.prog 16 #[.pointer (some ⟨b, 0, none⟩), .int .i64 keep, .int .u8 torn] w fun e w' => e = .returned (.tuple #[]) ∧ ∃ X', DiskD w' b (S.crash keep torn) X' ∧ Did w w' X X' := dcrash_any b S X keep torn w h (by omega) hk0 hk1 ht
theorem dkon_any (b : Nat) (S : DS) (X : Foot) (w : World) (h : DiskD w b S X) (hl : S.lives ≤ 1000000000) (hl0 : 0 ≤ S.lives) :
    Calls Try.prog 18 #[.pointer (some ⟨b, 0, none⟩)] w fun e w' => e = .returned (.tuple #[]) ∧ ∃ X', DiskD w' b S.on X' ∧ Did w w' X X' := (don_any b S X w h hl hl0).mono (by rintro e w' ⟨rfl, h1, h2⟩; exact ⟨rfl, X, h1, h2⟩)
theorem dksize_any (b : Nat) (S : DS) (X : Foot) (w : World) (h : DiskD w b S X) (hz : sizeN S.fs ≤ 1048576) :
    Calls Try.prog 32 #[.pointer (some ⟨b, 0, none⟩)] w fun e w' => e = .returned (.int .i64 (S.size : Nat)) ∧ Below w.heap.size w w' := (dsize_any b S X w h).mono (by rintro e w' ⟨rfl, rfl⟩; exact ⟨rfl, Below.refl _ _⟩)
end Go.Proofs.Ytlfmhdljldbjmaa
