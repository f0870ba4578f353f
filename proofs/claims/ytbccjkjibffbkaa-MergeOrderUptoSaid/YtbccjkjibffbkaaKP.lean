/- Lists of no key twice: what they are merged to. -/
import Derived.Test.YtbccjkjibffbkaaKL
namespace Go.Proofs.Ytbccjkjibffbkaa
open Go.RowKit Go.Shelf
set_option linter.unusedSimpArgs false
set_option linter.unusedVariables false
theorem srt_strict {Z : List RZ} (h : SrtD Z) : Z.Pairwise fun a b => cmpV a.2 b.2 < 0 := by
  have key : ∀ d i (h1 : i + d + 1 < (Z.map Prod.snd).length), cmpV ((Z.map Prod.snd)[i]'(by omega)) (Z.map Prod.snd)[i + d + 1] < 0 := by
    intro d
    induction d with
    | zero => exact fun i h1 => h i h1
    | succ d ih => exact fun i h1 => cmpV_tr (ih i (by omega)) (h (i + d + 1) (by omega))
  refine List.pairwise_iff_getElem.2 fun i j hi hj hij => ?_
  have hj2 : j < (Z.map Prod.snd).length := by rw [List.length_map]; exact hj
  obtain ⟨d, rfl⟩ : ∃ d, j = i + d + 1 := ⟨j - i - 1, by omega⟩
  have := key d i hj2
  rw [List.getElem_map, List.getElem_map] at this
  exact this
theorem strict_srt {Z : List RZ} (h : Z.Pairwise fun a b => cmpV a.2 b.2 < 0) : SrtD Z := fun i hi => by
  rw [List.getElem_map, List.getElem_map]
  exact List.pairwise_iff_getElem.1 h i (i + 1) _ _ (Nat.lt_succ_self i)
theorem srt_sub {Y Z : List RZ} (h : SrtD Z) (hs : Y.Sublist Z) : SrtD Y := strict_srt ((srt_strict h).sublist hs)
/-- Of one key there is one row at most. -/
theorem one_filter {K : List RV} (h : Strict K) (k : RV) : K.filter (keyV k) = [] ∨ ∃ a, K.filter (keyV k) = [a] := by
  rcases hf : K.filter (keyV k) with _ | ⟨a, _ | ⟨b, M⟩⟩
  · exact .inl rfl
  · exact .inr ⟨a, rfl⟩
  · exfalso
    have hp : (K.filter (keyV k)).Pairwise fun a b => cmpV a b < 0 := h.sublist List.filter_sublist
    have ha : a ∈ K.filter (keyV k) := by rw [hf]; simp
    have hb : b ∈ K.filter (keyV k) := by rw [hf]; simp
    rw [hf] at hp
    have h1 : cmpV a b < 0 := (List.pairwise_cons.1 hp).1 b (by simp)
    have h2 : cmpV k a = 0 := by have := (List.mem_filter.1 ha).2; simpa [keyV] using this
    have h3 : cmpV k b = 0 := by have := (List.mem_filter.1 hb).2; simpa [keyV] using this
    rw [← cmpV_left h2, h3] at h1
    omega
theorem srt_strictK {Z : List RZ} (h : SrtD Z) : Strict (Z.map Prod.snd) := List.pairwise_map.2 (srt_strict h)
theorem perm_sorts {K Z : List RZ} (hp : K.Perm Z) (hz : SrtD Z) : SortsTo (K.map Prod.snd) (Z.map Prod.snd) := by
  refine ⟨(srt_strictK hz).sorted, fun k => ?_⟩
  have hf : ((K.map Prod.snd).filter (keyV k)).Perm ((Z.map Prod.snd).filter (keyV k)) := (hp.map Prod.snd).filter _
  rcases one_filter (srt_strictK hz) k with h | ⟨a, h⟩
  · rw [h] at hf ⊢; exact (List.perm_nil.1 hf).symm
  · rw [h] at hf ⊢; exact (List.perm_singleton.1 hf).symm
theorem strict_of {K : List RV} (h : Strict K) : FoldOf K K := by
  refine ⟨h, fun k => ?_, fun k => ?_⟩
  · rcases one_filter h k with e | ⟨a, e⟩ <;> rw [e] <;> rfl
  · rcases one_filter h k with e | ⟨a, e⟩ <;> rw [e] <;> rfl
theorem strict_self {q : Nat} {K : List RV} (h : Strict K) (hK : ∀ a ∈ K, OkR q a) : refF [] K = (K, 0) := by
  have f := strict_of h
  rcases refF_all (q := q) K [] [] FoldOf.nil (fun a ha => absurd ha List.not_mem_nil) (fun a ha => absurd ha List.not_mem_nil) hK with ⟨h1, h2⟩ | ⟨_, _, k, h3⟩
  · rw [List.nil_append] at h2
    exact Prod.ext (h2.uniq f) h1
  · rw [List.nil_append] at h3
    exact absurd (f.ok k) h3
/-- Lists that are parts of one of no key twice. -/
theorem lists_perm {q : Nat} {L : List Le} {Z : List RZ} (hz : SrtD Z) (hs : ∀ x ∈ L, x.Z.Sublist Z) (hp : ((L.map Le.Z).flatten).Perm Z) (hq : ∀ z ∈ Z, OkR q z.2) : listsR L = (Z.map Prod.snd, 0) := by
  unfold listsR
  rw [if_pos ((allS_iff L).2 fun x hx => srt_sub hz (hs x hx))]
  have hqK : ∀ a ∈ (L.map Le.Z).flatten.map Prod.snd, OkR q a := fun a ha => by
    obtain ⟨z, hz, rfl⟩ := List.mem_map.1 ha
    exact hq z (hp.subset hz)
  rw [← refF_sorts (q := q) (perm_sorts hp hz) hqK]
  exact strict_self (srt_strictK hz) (fun a ha => by
    obtain ⟨z, hz, rfl⟩ := List.mem_map.1 ha
    exact hq z hz)
/-- A row, twice. -/
def dbl (a : RV) : RV := (joinR a a).1
theorem dbl_count {a : RV} (h : (joinR a a).2 = 0) : (dbl a).count = 2 * a.count := by
  unfold dbl
  unfold joinR at h ⊢
  rw [if_pos ⟨cmpV_self a, rfl⟩] at h ⊢
  by_cases h1 : 1048576 < a.count + a.count
  · rw [if_pos h1] at h; simp at h
  · rw [if_neg h1] at h ⊢
    by_cases h2 : (joinG a.aggs a.aggs).2 = 0
    · rw [if_pos h2]; show a.count + a.count = _; omega
    · rw [if_neg h2] at h; exact absurd h h2
theorem twice_of {q : Nat} {K O : List RV} (h : Strict K) (hK : ∀ a ∈ K, OkR q a) (he : refF [] (K ++ K) = (O, 0)) : O = K.map dbl ∧ ∀ a ∈ K, (joinR a a).2 = 0 := by
  have hKK : ∀ a ∈ K ++ K, OkR q a := fun a ha => (List.mem_append.1 ha).elim (hK a) (hK a)
  have f := refF_of hKK he
  have hj : ∀ a ∈ K, (joinR a a).2 = 0 := fun a ha => by
    have h1 := f.ok a
    rw [List.filter_append] at h1
    have ha2 : a ∈ K.filter (keyV a) := List.mem_filter.2 ⟨ha, keyV_self a⟩
    rcases one_filter h a with e | ⟨b, e⟩
    · rw [e] at ha2; exact absurd ha2 List.not_mem_nil
    · rw [e] at ha2
      obtain rfl := List.mem_singleton.1 ha2
      rw [e] at h1
      have h2 : (if (joinR a a).2 = 0 then joinAll (joinR a a).1 [] else (RV.zero, (joinR a a).2)).2 = 0 := h1
      by_cases h3 : (joinR a a).2 = 0
      · exact h3
      · rw [if_neg h3] at h2; exact h2
  have hd : ∀ a ∈ K, cmpV (dbl a) a = 0 := fun a ha => by
    rcases joinR_okR (hK a ha) (hK a ha) (cmpV_self a) with h1 | h1
    · exact h1.2.2
    · rw [hj a ha] at h1; cases h1
  refine ⟨f.uniq ⟨?_, fun k => ?_, f.ok⟩, hj⟩
  · refine List.pairwise_map.2 (h.imp_of_mem fun {a b} ha hb hab => ?_)
    rw [cmpV_left (hd a ha), cmpV_right (hd b hb)]; exact hab
  · rw [List.filter_append]
    have e1 : (K.map dbl).filter (keyV k) = (K.filter (keyV k)).map dbl := by
      rw [List.filter_map]
      congr 1
      refine List.filter_congr fun a ha => ?_
      simp only [Function.comp, keyV]
      rw [cmpV_right (hd a ha)]
    rw [e1]
    rcases one_filter h k with e | ⟨b, e⟩
    · rw [e]; rfl
    · have hb : b ∈ K := (List.mem_filter.1 (show b ∈ K.filter (keyV k) by rw [e]; simp)).1
      rw [e]
      show [dbl b] = (if (joinR b b).2 = 0 then joinAll (joinR b b).1 [] else (RV.zero, (joinR b b).2)).1 :: []
      rw [if_pos (hj b hb)]; rfl
end Go.Proofs.Ytbccjkjibffbkaa
