/- Whether all names of a query are the schema's: the program's named (20). -/
import Derived.Test.YtgaallkdfcckpaaFP
namespace Go.Proofs.Ytgaallkdfcckpaa
open Go.RowKit Go.Maps Go.Lib Go.Shelf
set_option linter.unusedSimpArgs false
set_option linter.unusedVariables false
def tmN (M : List ByteArray) (t : Int × ByteArray) : Bool := decide (t.1 = 0) || inT M t.2
def hvN (M : List ByteArray) (h : Int × ByteArray × Int × Int) : Bool := tmN M (h.1, h.2.1)
def lfN (L : List ByteArray) (x : FT) : Bool := inT L x.dim
def namedS (L M : List ByteArray) (q : QZ) : Bool := q.BY.all (inT L) && q.f.leaves.all (lfN L) && q.T.all (tmN M) && q.H.all (hvN M)
theorem all_snoc {α : Type} (p : α → Bool) (l : List α) (x : α) : (l ++ [x]).all p = (l.all p && p x) := by simp
theorem keep_of_fr {P : Nat} {b : Bool} {W W' : World} (h : Blk W P 4 #[.bool b]) (k : Fr (fun i => i = P) W W') : KeepT W W' :=
  ⟨k.size, fun g t cs ht hb => k.blk hb fun e => by
    subst e
    rcases ht with rfl | rfl
    · exact hb.ne_ h (by decide) rfl
    · exact hb.ne_ h (by decide) rfl⟩
/-- What holds in each moment of named. -/
structure NmSt (w w1 : World) (P : Nat) (b : Bool) (W : World) : Prop where
  fr : Fr (fun i => i = P) w1 W
  blk : Blk W P 4 #[.bool b]
theorem NmSt.below {w w1 W : World} {P : Nat} {b : Bool} (h : NmSt w w1 P b W) (hb : Below w.heap.size w w1) (hp : w.heap.size ≤ P) : Below w.heap.size w W :=
  hb.trans (h.fr.below hb.size (fun i hi => by omega))
theorem NmSt.more {w w1 W W' : World} {P : Nat} {b : Bool} (h : NmSt w w1 P b W) (hb : Below W.heap.size W W') : NmSt w w1 P b W' :=
  ⟨h.fr.trans (Fr.of_below hb), h.blk.below hb⟩
theorem NmSt.upd {w w1 W W' : World} {P : Nat} {b r : Bool} (h : NmSt w w1 P b W) (hp : Blk W' P 4 #[.bool r]) (hf : Fr (fun i => i = P) W W') : NmSt w w1 P r W' := ⟨h.fr.trans hf, hp⟩
theorem NmSt.old {w w1 W : World} {P : Nat} {b : Bool} (h : NmSt w w1 P b W) {g : Nat} {t : TypeId} {cs : Array Value} (hb : Blk w1 g t cs) (hg : g ≠ P) : Blk W g t cs := h.fr.blk hb hg
end Go.Proofs.Ytgaallkdfcckpaa
