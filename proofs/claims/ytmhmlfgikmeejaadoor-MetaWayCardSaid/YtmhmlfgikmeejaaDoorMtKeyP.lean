/- 'Keys' and 'Sids' of a Meta. -/
import Derived.Test.YtmhmlfgikmeejaaDoorMtKeys
namespace Go.Proofs.YtmhmlfgikmeejaaDoor
open Go.RowKit Go.Maps Go.Sort Go.Shelf
set_option linter.unusedVariables false

section
variable {P : Program} {k : TypeId} {w : World} {b n : Nat} {D : DataW Value}
theorem strKeys_spec (h : w.ownsMap P k hv b n D) (K : Keyed P k) (hk : P.underlying k = some .string) : (strKeys D).Nodup ∧ (∀ x, x ∈ strKeys D ↔ has D (.string x) = true) ∧ ∀ x ∈ strKeys D, x.length ≤ maxLen := by
  obtain ⟨es, rfl, hp, _⟩ := h.entries K
  obtain ⟨es', hD', hko⟩ := h.keysOf
  obtain rfl : es = es' := by simpa using hD'
  have hs : ∀ p ∈ es, ∃ x, p.1 = .string x ∧ x.length ≤ maxLen := fun p hp => by
    obtain ⟨v, hv⟩ := hko p hp
    obtain ⟨x, _, hx, hl⟩ := Maps.keyOf_str hk hv
    exact ⟨x, hx, hl⟩
  refine ⟨?_, fun x => ?_, fun x hx => ?_⟩
  · show (es.map fun p => Go.strOf p.1).Nodup
    refine List.pairwise_map.2 (hp.imp_of_mem fun {p q} hp' hq' hne e => hne ?_)
    obtain ⟨a, ha, _⟩ := hs p hp'
    obtain ⟨b, hb, _⟩ := hs q hq'
    rw [ha, hb] at e ⊢
    exact congrArg _ e
  · rw [has_eq, List.any_eq_true]
    show x ∈ es.map (fun p => Go.strOf p.1) ↔ _
    rw [List.mem_map]
    constructor
    · rintro ⟨p, hp', rfl⟩
      obtain ⟨a, ha, _⟩ := hs p hp'
      exact ⟨p, hp', by rw [ha]; simp [Lit.sameKey, Go.strOf]⟩
    · rintro ⟨p, hp', he⟩
      obtain ⟨a, ha, _⟩ := hs p hp'
      rw [ha] at he
      exact ⟨p, hp', by rw [ha]; simpa [Lit.sameKey, Go.strOf] using he⟩
  · have hx : x ∈ es.map (fun p => Go.strOf p.1) := hx
    rw [List.mem_map] at hx
    obtain ⟨p, hp', rfl⟩ := hx
    obtain ⟨a, ha, hl⟩ := hs p hp'
    rw [ha]; exact hl
theorem intKeys_spec (h : w.ownsMap P k hv b n D) (K : Keyed P k) (hk : P.underlying k = some (.int .i64)) : (intKeys D).Nodup ∧ (∀ x, x ∈ intKeys D ↔ has D (.int .i64 x) = true) ∧ ∀ x ∈ intKeys D, (Lit.int .i64 x).wf = true := by
  obtain ⟨es, rfl, hp, _⟩ := h.entries K
  obtain ⟨es', hD', hko⟩ := h.keysOf
  obtain rfl : es = es' := by simpa using hD'
  have hs : ∀ p ∈ es, ∃ x, p.1 = .int .i64 x ∧ (Lit.int .i64 x).wf = true := fun p hp => by
    obtain ⟨v, hv⟩ := hko p hp
    obtain ⟨x, _, hx, hl⟩ := Maps.keyOf_i64 hk hv
    exact ⟨x, hx, hl⟩
  refine ⟨?_, fun x => ?_, fun x hx => ?_⟩
  · show (es.map fun p => Go.intOf p.1).Nodup
    refine List.pairwise_map.2 (hp.imp_of_mem fun {p q} hp' hq' hne e => hne ?_)
    obtain ⟨a, ha, _⟩ := hs p hp'
    obtain ⟨b, hb, _⟩ := hs q hq'
    rw [ha, hb] at e ⊢
    exact congrArg _ e
  · rw [has_eq, List.any_eq_true]
    show x ∈ es.map (fun p => Go.intOf p.1) ↔ _
    rw [List.mem_map]
    constructor
    · rintro ⟨p, hp', rfl⟩
      obtain ⟨a, ha, _⟩ := hs p hp'
      exact ⟨p, hp', by rw [ha]; simp [Lit.sameKey, Go.intOf]⟩
    · rintro ⟨p, hp', he⟩
      obtain ⟨a, ha, _⟩ := hs p hp'
      rw [ha] at he
      exact ⟨p, hp', by rw [ha]; simpa [Lit.sameKey, Go.intOf] using he⟩
  · have hx : x ∈ es.map (fun p => Go.intOf p.1) := hx
    rw [List.mem_map] at hx
    obtain ⟨p, hp', rfl⟩ := hx
    obtain ⟨a, ha, hl⟩ := hs p hp'
    rw [ha]; exact hl
end
/-- The keys of all blobs, rising. -/
structure KS (M : MM) (ks : List ByteArray) : Prop where
  nd : ks.Nodup
  up : ks.Pairwise fun a b => a.data.toList ≤ b.data.toList
  sz : ∀ k ∈ ks, k.size ≤ maxLen
  mem : ∀ k : ByteArray, k.size ≤ maxLen → (k ∈ ks ↔ (M.b k).isSome = true)
/-- The Sids of all Stripes, rising. -/
structure IS (M : MM) (is : List Int) : Prop where
  nd : is.Nodup
  up : is.Pairwise fun a b => a ≤ b
  wf : ∀ i ∈ is, (Lit.int .i64 i).wf = true
  mem : ∀ i : Int, (Lit.int .i64 i).wf = true → (i ∈ is ↔ (M.s i).isSome = true)
section
variable {F : Nat → Prop} {w : World} {p bm bs n : Nat} {Q : Int → Value} {M : MM}
theorem keys_any (h : MT F w p bm bs n Q M) (hn : n ≤ 100000) : Calls Tryd.prog 15 #[.pointer (some ⟨p, 0, none⟩)] w fun e w' => ∃ v ks, e = .returned v ∧ OwnV 9 w.heap.size w' v (ks.map Value.string) ∧ KS M ks ∧ ks.length ≤ n ∧ Up Nul w w' := by
  obtain ⟨D, h1, h2⟩ := h.mb
  have hsz := h1.size_le
  obtain ⟨s1, s2, s3⟩ := strKeys_spec h1 keyS Tryd.underlying9
  refine (keys_raw w p bm n D h1 h.cells.1 (by unfold maxLen; omega) (by omega)).mono ?_
  rintro e w' ⟨v, ss, rfl, hp, ho, hb⟩
  have hm : (ss.mergeSort fun x y => decide (x ≤ y)).Perm ss := List.mergeSort_perm _ _
  have hall := hm.trans hp
  have hlen : ss.length ≤ n := by
    have e1 := hp.length_eq
    obtain ⟨es, e2, _⟩ := h1.entries keyS
    rw [e2] at e1 hsz
    have : (strKeys (DataW.map es)).length = es.length := by show (es.map _).length = _; rw [List.length_map]
    have e3 : Maps.size (DataW.map es) = es.length := rfl
    omega
  refine ⟨v, (ss.mergeSort fun x y => decide (x ≤ y)).map fun l => (⟨l.toArray⟩ : ByteArray), rfl, ?_, ⟨?_, ?_, ?_, ?_⟩, by rw [List.length_map, hm.length_eq]; exact hlen, Up.of_below hb Nul⟩
  · have e1 : ((ss.mergeSort fun x y => decide (x ≤ y)).map fun l => (⟨l.toArray⟩ : ByteArray)).map Value.string = (ss.mergeSort fun x y => decide (x ≤ y)).map encStr := by rw [List.map_map]; rfl
    rw [e1]
    unfold OwnV
    rw [List.length_map, hm.length_eq]
    exact ho
  · refine List.pairwise_map.2 ?_
    exact (hall.nodup_iff.2 s1).imp fun {a b} hne e => hne (by injection e with e; simpa using e)
  · refine List.pairwise_map.2 ?_
    have := List.pairwise_mergeSort (le := fun x y : List UInt8 => decide (x ≤ y)) (fun a b c h1 h2 => by simp only [decide_eq_true_eq] at *; exact List.le_trans h1 h2) (fun a b => by simp only [Bool.or_eq_true, decide_eq_true_eq]; exact List.le_total a b) ss
    exact this.imp fun {a b} h => by simpa using h
  · intro k hk
    obtain ⟨l, hl, rfl⟩ := List.mem_map.1 hk
    have := s3 l (hall.mem_iff.1 hl)
    show l.toArray.size ≤ maxLen
    rw [List.size_toArray]; exact this
  · intro k hk
    have e1 : ent D (ks k) = (M.b k).map blv := h2 k hk
    obtain ⟨_, e2⟩ := at_held (held_all h1) (kl := ks k) undef
    have e3 := s2 k.data.toList
    have e4 : (M.b k).isSome = (ent D (ks k)).isSome := by rw [e1, Option.isSome_map]
    rw [e4, ← e2, ← e3, ← hall.mem_iff, List.mem_map]
    constructor
    · rintro ⟨l, hl, rfl⟩; simpa using hl
    · intro hl; exact ⟨_, hl, ByteArray.ext (by simp)⟩
theorem sids_any (h : MT F w p bm bs n Q M) (hn : n ≤ 100000) : Calls Tryd.prog 13 #[.pointer (some ⟨p, 0, none⟩)] w fun e w' => ∃ v is, e = .returned v ∧ OwnI w.heap.size w' v is ∧ IS M is ∧ is.length ≤ n ∧ Up Nul w w' := by
  obtain ⟨D, h1, h2⟩ := h.ms
  have hsz := h1.size_le
  obtain ⟨s1, s2, s3⟩ := intKeys_spec h1 keyI Tryd.underlying3
  refine (sids_raw w p bs n D h1 h.cells.2.1 (by unfold maxLen; omega) (by omega)).mono ?_
  rintro e w' ⟨v, ss, rfl, hp, ho, hb⟩
  have hm : (ss.mergeSort fun x y => decide (x ≤ y)).Perm ss := List.mergeSort_perm _ _
  have hall := hm.trans hp
  have hlen : ss.length ≤ n := by
    have e1 := hp.length_eq
    obtain ⟨es, e2, _⟩ := h1.entries keyI
    rw [e2] at e1 hsz
    have : (intKeys (DataW.map es)).length = es.length := by show (es.map _).length = _; rw [List.length_map]
    have e3 : Maps.size (DataW.map es) = es.length := rfl
    omega
  refine ⟨v, ss.mergeSort fun x y => decide (x ≤ y), rfl, ?_, ⟨hall.nodup_iff.2 s1, ?_, fun i hi => s3 i (hall.mem_iff.1 hi), ?_⟩, by rw [hm.length_eq]; exact hlen, Up.of_below hb Nul⟩
  · show w'.ownsRow w.heap.size 3 1 v (intV (ss.mergeSort fun x y => decide (x ≤ y))).length (intV (ss.mergeSort fun x y => decide (x ≤ y)))
    have e1 : (intV (ss.mergeSort fun x y => decide (x ≤ y))).length = ss.length := by unfold intV; rw [List.length_map, hm.length_eq]
    rw [e1]
    exact ho
  · have := List.pairwise_mergeSort (le := fun x y : Int => decide (x ≤ y)) (fun a b c h1 h2 => by simp only [decide_eq_true_eq] at *; omega) (fun a b => by simp only [Bool.or_eq_true, decide_eq_true_eq]; omega) ss
    exact this.imp fun {a b} h => by simpa using h
  · intro i hi
    have e1 : ent D (ki i) = (M.s i).map fun s => stv s (Q i) := h2 i hi
    obtain ⟨_, e2⟩ := at_held (held_all h1) (kl := ki i) undef
    have e3 := s2 i
    have e4 : (M.s i).isSome = (ent D (ki i)).isSome := by rw [e1, Option.isSome_map]
    rw [e4, ← e2, ← e3, ← hall.mem_iff]
end
end Go.Proofs.YtmhmlfgikmeejaaDoor
