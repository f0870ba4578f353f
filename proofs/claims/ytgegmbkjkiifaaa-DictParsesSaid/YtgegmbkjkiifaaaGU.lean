/- In a region that draws its order: behind a call the condition on the world may be a stronger one. -/
import Derived.Test.YtgegmbkjkiifaaaGM
namespace Go.Proofs.Ytgegmbkjkiifaaa
variable {P : Program} {ops : Array Oper} {Q : Exit → Act → World → Prop} {md : Region.Mode} {S S' : World → Prop}
theorem wpAnyH_sub (hs : ∀ w, S' w → S w) : ∀ (fuel : Nat) (listed : Array Bool) (a : Act) (w : World), wpAnyH P md ops Q S' fuel listed a w → wpAnyH P md ops Q S fuel listed a w
  | 0, _, _, _, h => h
  | fuel + 1, _, _, _, h => ⟨h.1, fun i hi => wpOp_mono (fun _ _ ⟨h1, h2⟩ => ⟨hs _ h1, wpAnyH_sub hs fuel _ _ _ h2⟩) (h.2 i hi)⟩
end Go.Proofs.Ytgegmbkjkiifaaa
