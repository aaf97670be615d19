import PyProof.Rows.All
import Wide.All
import OpenK.AllK
import Wide.FinOn
import HandS.ForMost
import HandS.Exc
import HandS.Wide
import HandS.WideBits
import HandS.Gcd
import HandS.DictComp
import HandS.Iter
import HandS.Conv
import HandS.RevRange
import HandS.Star
import HandS.Property
import HandS.OwnEq
import HandS.IsInst
import HandS.Walk
import HandS.TupMul
import HandS.TupLe
import HandS.TupAny
import HandS.TupLen
import HandS.CallLocal
import HandS.WrittenGet
import HandS.Deep
import HandS.DeepEq
import HandS.DictTup
import HandS.Style
import HandS.Rev
import HandS.Sort
import HandS.SortInts
import HandS.RaiseMore
import KE.KUnpackStar
import KE.KMathGC
import PyProof.ReprRoads
import Wide.Loose
import KE.KStateDown
import HandS.Defaults
import HandS.Head0
import HandS.Head1
import HandS.Head2
import HandS.Head3
import HandS.HeadEnd
import HandS.HeadHook1
import HandS.HeadHook2
import HandS.HeadHook3
import KE.GoesNew
import KE.GoesEnum
import HandS.Codes
import KE.DataAny
import KE.DataCmp
import KE.SortData
import PySem.Challenge.RW_halverules_k66_whole_accepted_claims_are
set_option Elab.async false
set_option linter.all false
section S_HalvesLin
/- Combinations of functions from the numbers to the fractions: spans, independent lists, exchange. Pure; needs nothing. -/
namespace L2.Halves

abbrev Vec (ι : Type) := ι → Rat
abbrev Fn := Vec Nat

variable {ι κ : Type}

/-- The combinations of the functions of a kind. -/
inductive Span (S : Vec ι → Prop) : Vec ι → Prop
  | zero : Span S (fun _ => 0)
  | more (a : Rat) (s v : Vec ι) : S s → Span S v → Span S (fun n => a * s n + v n)

theorem Span.congr {S : Vec ι → Prop} {u v : Vec ι} (h : Span S u) (e : ∀ n, u n = v n) : Span S v := by
  have : u = v := funext e
  exact this ▸ h

theorem Span.of {S : Vec ι → Prop} {s : Vec ι} (h : S s) : Span S s :=
  (Span.more 1 s _ h .zero).congr (fun n => by grind)

theorem Span.add {S : Vec ι → Prop} {u v : Vec ι} (hu : Span S u) (hv : Span S v) : Span S (fun n => u n + v n) := by
  induction hu with
  | zero => exact hv.congr (fun n => by grind)
  | more a s w hs _ ih => exact (Span.more a s _ hs ih).congr (fun n => by grind)

theorem Span.smul {S : Vec ι → Prop} {v : Vec ι} (c : Rat) (hv : Span S v) : Span S (fun n => c * v n) := by
  induction hv with
  | zero => exact Span.zero.congr (fun n => by grind)
  | more a s w hs _ ih => exact (Span.more (c * a) s _ hs ih).congr (fun n => by grind)

theorem Span.trans {S T : Vec ι → Prop} {v : Vec ι} (h : ∀ s, S s → Span T s) (hv : Span S v) : Span T v := by
  induction hv with
  | zero => exact .zero
  | more a s w hs _ ih => exact ((h s hs).smul a).add ih

theorem Span.mono {S T : Vec ι → Prop} {v : Vec ι} (h : ∀ s, S s → T s) (hv : Span S v) : Span T v :=
  hv.trans (fun s hs => .of (h s hs))

/-- A map that goes by another place: it takes combinations to combinations. -/
theorem Span.at {S : Vec ι → Prop} {T : Vec κ → Prop} {v : Vec ι} (g : κ → ι) (h : ∀ s, S s → Span T (fun n => s (g n)))
    (hv : Span S v) : Span T (fun n => v (g n)) := by
  induction hv with
  | zero => exact .zero
  | more a s w hs _ ih => exact ((h s hs).smul a).add ih

theorem Span.empty {v : Vec ι} (h : Span (fun _ => False) v) : ∀ n, v n = 0 := by
  induction h with
  | zero => intro n; rfl
  | more a s w hs _ _ => exact hs.elim

/-- What is 0 at a place for all, is for combinations. -/
theorem Span.zero_at {S : Vec ι → Prop} {v : Vec ι} (n : ι) (h : ∀ s, S s → s n = 0) (hv : Span S v) : v n = 0 := by
  induction hv with
  | zero => rfl
  | more a s w hs _ ih => have := h s hs; grind

/-- One more: so many times it and a combination of the others. -/
theorem Span.cons {S : Vec ι → Prop} {m v : Vec ι} (h : Span (fun x => x = m ∨ S x) v) :
    ∃ c w, Span S w ∧ ∀ n, v n = c * m n + w n := by
  induction h with
  | zero => exact ⟨0, _, .zero, fun n => by grind⟩
  | more a s w hs _ ih =>
    obtain ⟨c, u, hu, e⟩ := ih
    rcases hs with hs | hs
    · subst hs
      exact ⟨a + c, u, hu, fun n => by have := e n; grind⟩
    · exact ⟨c, _, .more a s u hs hu, fun n => by have := e n; grind⟩

/-- The exchange: f hangs on L and M, but not on L alone; then one of M hangs on the rest of them and f. -/
theorem exchange {L : Vec ι → Prop} {f : Vec ι} (hL : ¬ Span L f) : ∀ M : List (Vec ι), Span (fun x => L x ∨ x ∈ M) f →
    ∃ A m B, M = A ++ m :: B ∧ Span (fun x => L x ∨ x = f ∨ x ∈ A ∨ x ∈ B) m
  | [], h => absurd (h.mono (fun s hs => by simpa using hs)) hL
  | m :: B, h => by
    have h' : Span (fun x => x = m ∨ (L x ∨ x ∈ B)) f := h.mono (fun s hs => by
      rcases hs with hs | hs
      · exact .inr (.inl hs)
      · rcases List.mem_cons.1 hs with hs | hs
        · exact .inl hs
        · exact .inr (.inr hs))
    obtain ⟨c, w, hw, e⟩ := h'.cons
    by_cases hc : c = 0
    · have : Span (fun x => L x ∨ x ∈ B) f := hw.congr (fun n => by have := e n; grind)
      obtain ⟨A, m', B', e', h''⟩ := exchange hL B this
      refine ⟨m :: A, m', B', by simp [e'], h''.mono (fun s hs => ?_)⟩
      rcases hs with hs | hs | hs | hs
      · exact .inl hs
      · exact .inr (.inl hs)
      · exact .inr (.inr (.inl (List.mem_cons_of_mem _ hs)))
      · exact .inr (.inr (.inr hs))
    · refine ⟨[], m, B, rfl, ?_⟩
      have h1 : Span (fun x => L x ∨ x = f ∨ x ∈ ([] : List (Vec ι)) ∨ x ∈ B) (fun n => (1 / c) * f n) :=
        (Span.of (.inr (.inl rfl))).smul _
      have h2 : Span (fun x => L x ∨ x = f ∨ x ∈ ([] : List (Vec ι)) ∨ x ∈ B) (fun n => (-1 / c) * w n) :=
        (hw.mono (fun s hs => by
          rcases hs with hs | hs
          · exact .inl hs
          · exact .inr (.inr (.inr hs)))).smul _
      exact (h1.add h2).congr (fun n => by have := e n; grind)

/-- No function of the list is a combination of those before it (and of L). -/
def Free (L : Vec ι → Prop) (F : List (Vec ι)) : Prop :=
  ∀ A f B, F = A ++ f :: B → ¬ Span (fun x => L x ∨ x ∈ A) f

theorem free_le : ∀ (F M : List (Vec ι)) (L : Vec ι → Prop), Free L F → (∀ f, f ∈ F → Span (fun x => L x ∨ x ∈ M) f) →
    F.length ≤ M.length
  | [], _, _, _, _ => Nat.zero_le _
  | f :: F, M, L, hF, hM => by
    have h0 : ¬ Span L f := fun h => hF [] f F rfl (h.mono (fun s hs => .inl hs))
    obtain ⟨A, m, B, eM, hm⟩ := exchange h0 M (hM f (by simp))
    have hF' : Free (fun x => L x ∨ x = f) F := by
      intro A' g B' e h
      refine hF (f :: A') g B' (by simp [e]) (h.mono (fun s hs => ?_))
      rcases hs with (hs | hs) | hs
      · exact .inl hs
      · exact .inr (by simp [hs])
      · exact .inr (List.mem_cons_of_mem _ hs)
    have := free_le F (A ++ B) (fun x => L x ∨ x = f) hF' (fun g hg => by
      refine (hM g (by simp [hg])).trans (fun s hs => ?_)
      rcases hs with hs | hs
      · exact .of (.inl (.inl hs))
      · subst eM
        rcases List.mem_append.1 hs with hs | hs
        · exact .of (.inr (List.mem_append.2 (.inl hs)))
        · rcases List.mem_cons.1 hs with hs | hs
          · subst hs
            refine hm.mono (fun t ht => ?_)
            rcases ht with ht | ht | ht | ht
            · exact .inl (.inl ht)
            · exact .inl (.inr ht)
            · exact .inr (List.mem_append.2 (.inl ht))
            · exact .inr (List.mem_append.2 (.inr ht))
          · exact .of (.inr (List.mem_append.2 (.inr hs))))
    subst eM
    simp at this ⊢
    omega

/-- The sum of the factors times the functions. -/
def lin : List Rat → List (Vec ι) → Vec ι
  | c :: cs, f :: fs => fun n => c * f n + lin cs fs n
  | _, _ => fun _ => 0

theorem lin_nil (cs : List Rat) (n : Nat) : lin cs [] n = 0 := by cases cs <;> rfl

theorem lin_snoc : ∀ (cs : List Rat) (fs : List (Vec ι)) (c : Rat) (f : Vec ι) (n : ι), cs.length = fs.length →
    lin (cs ++ [c]) (fs ++ [f]) n = lin cs fs n + c * f n
  | [], [], c, f, n, _ => by simp [lin]; grind
  | d :: cs, g :: fs, c, f, n, h => by
    have := lin_snoc cs fs c f n (by simpa using h)
    simp only [List.cons_append, lin, this]; grind
  | [], _ :: _, _, _, _, h => by simp at h
  | _ :: _, [], _, _, _, h => by simp at h

theorem lin_span : ∀ (cs : List Rat) (fs : List (Vec ι)), Span (· ∈ fs) (lin cs fs)
  | [], fs => by cases fs <;> exact .zero
  | c :: cs, [] => .zero
  | c :: cs, f :: fs =>
    .more c f _ (by simp) ((lin_span cs fs).mono (fun s hs => List.mem_cons_of_mem _ hs))

theorem span_lin : ∀ (fs : List (Vec ι)) (v : Vec ι), Span (· ∈ fs) v → ∃ cs, cs.length = fs.length ∧ ∀ n, v n = lin cs fs n
  | [], v, h => ⟨[], rfl, fun n => by
      have := (h.mono (T := fun _ => False) (fun s hs => by simp at hs)).empty n
      simpa [lin] using this⟩
  | f :: fs, v, h => by
    obtain ⟨c, w, hw, e⟩ := (h.mono (T := fun x => x = f ∨ x ∈ fs) (fun s hs => List.mem_cons.1 hs)).cons
    obtain ⟨cs, hl, e'⟩ := span_lin fs w hw
    exact ⟨c :: cs, by simp [hl], fun n => by rw [e n, e' n]; rfl⟩

/-- The factors are unique where the functions are free. -/
theorem lin_unique : ∀ (m : Nat) (fs : List (Vec ι)), fs.length = m → Free (fun _ => False) fs → ∀ cs ds : List Rat,
    cs.length = fs.length → ds.length = fs.length → (∀ n, lin cs fs n = lin ds fs n) → cs = ds
  | 0, fs, hm, _, cs, ds, hc, hd, _ => by
    have e1 := List.eq_nil_of_length_eq_zero (hc.trans hm)
    have e2 := List.eq_nil_of_length_eq_zero (hd.trans hm)
    rw [e1, e2]
  | m + 1, fs, hm, hf, cs, ds, hc, hd, h => by
    have ne : fs ≠ [] := by intro e; simp [e] at hm
    have nc : cs ≠ [] := by intro e; simp [e] at hc; omega
    have nd : ds ≠ [] := by intro e; simp [e] at hd; omega
    obtain ⟨gs, g, rfl⟩ : ∃ gs g, fs = gs ++ [g] := ⟨_, _, (List.dropLast_concat_getLast ne).symm⟩
    obtain ⟨cs', c, rfl⟩ : ∃ gs g, cs = gs ++ [g] := ⟨_, _, (List.dropLast_concat_getLast nc).symm⟩
    obtain ⟨ds', d, rfl⟩ : ∃ gs g, ds = gs ++ [g] := ⟨_, _, (List.dropLast_concat_getLast nd).symm⟩
    have lc : cs'.length = gs.length := by simpa using hc
    have ld : ds'.length = gs.length := by simpa using hd
    have hs : ∀ n, lin cs' gs n + c * g n = lin ds' gs n + d * g n := fun n => by
      have := h n
      rwa [lin_snoc _ _ _ _ _ lc, lin_snoc _ _ _ _ _ ld] at this
    by_cases e : c = d
    · subst e
      have := lin_unique m gs (by simpa using hm) (fun A f B e => hf A f (B ++ [g]) (by simp [e])) cs' ds' lc ld
        (fun n => by have := hs n; grind)
      rw [this]
    · refine absurd ?_ (hf gs g [] rfl)
      have h1 := (lin_span cs' gs).smul (1 / (d - c))
      have h2 := (lin_span ds' gs).smul (-1 / (d - c))
      have hne : d - c ≠ 0 := by grind
      refine ((h1.add h2).congr (v := g) (fun n => ?_)).mono (fun s hs => .inr hs)
      have := hs n
      have e1 : (d - c) * g n = lin cs' gs n - lin ds' gs n := by grind
      grind

end L2.Halves
end S_HalvesLin
section S_HalvesParts
/- Parts, basic parts, and the least rule of a function: what they are, that it is unique, and how it is found. Pure. -/
namespace L2.Halves

/-- The part (k, r). -/
def part (f : Fn) (k r : Nat) : Fn := fun n => f (2 ^ k * n + r)

/-- A function at 2 n + d. -/
def half (f : Fn) (d : Nat) : Fn := fun n => f (2 * n + d)

theorem part_zero (f : Fn) : part f 0 0 = f := by funext n; simp [part]

theorem half_part (f : Fn) (k r d : Nat) : half (part f k r) d = part f (k + 1) (r + d * 2 ^ k) := by
  funext n
  simp only [half, part]
  congr 1
  rw [Nat.pow_succ]; grind

theorem Span.half {S T : Fn → Prop} {v : Fn} (d : Nat) (h : ∀ s, S s → Span T (half s d)) (hv : Span S v) :
    Span T (half v d) := hv.at (fun n => 2 * n + d) h

/-- The order of the parts: by k, and by r among equal k. -/
def Before (p q : Nat × Nat) : Prop := p.1 < q.1 ∨ p.1 = q.1 ∧ p.2 < q.2

instance (p q : Nat × Nat) : Decidable (Before p q) := inferInstanceAs (Decidable (_ ∨ _))

theorem Before.trans {p q r : Nat × Nat} (h : Before p q) (h' : Before q r) : Before p r := by
  unfold Before at *; omega

theorem Before.irrefl (p : Nat × Nat) : ¬ Before p p := by unfold Before; omega

theorem Before.total (p q : Nat × Nat) : Before p q ∨ p = q ∨ Before q p := by
  obtain ⟨a, b⟩ := p
  obtain ⟨c, d⟩ := q
  simp only [Before, Prod.mk.injEq]; omega

/-- A pair that tells a part. -/
def IsPart (p : Nat × Nat) : Prop := p.2 < 2 ^ p.1

/-- The parts before one. -/
def Earlier (f : Fn) (p : Nat × Nat) (s : Fn) : Prop := ∃ q, IsPart q ∧ Before q p ∧ s = part f q.1 q.2

/-- A part that is no combination of the parts before it. -/
def Basic (f : Fn) (p : Nat × Nat) : Prop := IsPart p ∧ ¬ Span (Earlier f p) (part f p.1 p.2)

/-- The parts of a list before a pair. -/
def Listed (f : Fn) (P : List (Nat × Nat)) (C : Nat × Nat → Prop) (s : Fn) : Prop :=
  ∃ q, q ∈ P ∧ C q ∧ s = part f q.1 q.2

/-- What the search for the basic parts leaves: its list, in order; each is new; each half is on it or hangs on those
before; and so is the function itself. -/
structure Searched (f : Fn) (P : List (Nat × Nat)) : Prop where
  isPart : ∀ p, p ∈ P → IsPart p
  fresh : ∀ p, p ∈ P → ¬ Span (Listed f P (Before · p)) (part f p.1 p.2)
  first : (0, 0) ∈ P ∨ Span (fun _ => False) f
  halves : ∀ p, p ∈ P → ∀ d, d < 2 → (p.1 + 1, p.2 + d * 2 ^ p.1) ∈ P ∨
    Span (Listed f P (Before · (p.1 + 1, p.2 + d * 2 ^ p.1))) (part f (p.1 + 1) (p.2 + d * 2 ^ p.1))

/-- Each part is a combination of those of the list up to it. -/
theorem Searched.upTo {f : Fn} {P : List (Nat × Nat)} (h : Searched f P) : ∀ k r, r < 2 ^ k →
    Span (Listed f P (fun q => q = (k, r) ∨ Before q (k, r))) (part f k r)
  | 0, r, hr => by
    have : r = 0 := by simp at hr; omega
    subst this
    rw [part_zero]
    rcases h.first with h1 | h1
    · exact .of ⟨(0, 0), h1, .inl rfl, (part_zero f).symm⟩
    · exact h1.mono (fun _ hs => hs.elim)
  | k + 1, r, hr => by
    obtain ⟨d, r', hd, hr', e⟩ : ∃ d r', d < 2 ∧ r' < 2 ^ k ∧ r = r' + d * 2 ^ k := by
      rw [Nat.pow_succ] at hr
      by_cases c : r < 2 ^ k
      · exact ⟨0, r, by omega, c, by omega⟩
      · exact ⟨1, r - 2 ^ k, by omega, by omega, by omega⟩
    subst e
    rw [← half_part]
    refine (h.upTo k r' hr').half d ?_
    rintro s ⟨q, hq, hb, rfl⟩
    rw [half_part]
    have hle : (q.1 + 1, q.2 + d * 2 ^ q.1) = (k + 1, r' + d * 2 ^ k) ∨
        Before (q.1 + 1, q.2 + d * 2 ^ q.1) (k + 1, r' + d * 2 ^ k) := by
      rcases hb with hb | hb
      · subst hb; exact .inl rfl
      · right
        unfold Before at *
        rcases hb with hb | ⟨hb, hb'⟩
        · left; simpa using hb
        · right
          simp only at hb hb'
          exact ⟨by simp [hb], by rw [hb]; simpa using hb'⟩
    rcases h.halves q hq d hd with h1 | h1
    · exact .of ⟨_, h1, hle, rfl⟩
    · refine h1.mono ?_
      rintro s ⟨p, hp, hb', rfl⟩
      refine ⟨p, hp, .inr ?_, rfl⟩
      rcases hle with e | e
      · rw [← e]; exact hb'
      · exact hb'.trans e

/-- The parts before one are combinations of those of the list before it. -/
theorem Searched.earlier {f : Fn} {P : List (Nat × Nat)} (h : Searched f P) {p : Nat × Nat} {v : Fn}
    (hv : Span (Earlier f p) v) : Span (Listed f P (Before · p)) v := by
  refine hv.trans ?_
  rintro s ⟨q, hq, hb, rfl⟩
  refine (h.upTo q.1 q.2 hq).mono ?_
  rintro s ⟨q', hq', hb', rfl⟩
  refine ⟨q', hq', ?_, rfl⟩
  rcases hb' with e | e
  · rw [e]; exact hb
  · exact e.trans hb

theorem Searched.listed {f : Fn} {P : List (Nat × Nat)} (h : Searched f P) {p : Nat × Nat} {v : Fn}
    (hv : Span (Listed f P (Before · p)) v) : Span (Earlier f p) v := by
  refine hv.mono ?_
  rintro s ⟨q, hq, hb, rfl⟩
  exact ⟨q, h.isPart q hq, hb, rfl⟩

/-- The list has the basic parts, all of them, and no others. -/
theorem Searched.basic {f : Fn} {P : List (Nat × Nat)} (h : Searched f P) (p : Nat × Nat) : p ∈ P ↔ Basic f p := by
  constructor
  · exact fun hp => ⟨h.isPart p hp, fun hs => h.fresh p hp (h.earlier hs)⟩
  · rintro ⟨hp, hs⟩
    refine Classical.byContradiction (fun hn => hs (h.listed ?_))
    refine (h.upTo p.1 p.2 hp).mono ?_
    rintro s ⟨q, hq, hb, rfl⟩
    refine ⟨q, hq, ?_, rfl⟩
    rcases hb with e | e
    · exact absurd ((show q = p from e) ▸ hq) hn
    · exact e

/-- In order, each before all later ones. -/
def Sorted (P : List (Nat × Nat)) : Prop := P.Pairwise Before

theorem sorted_unique : ∀ (P Q : List (Nat × Nat)), Sorted P → Sorted Q → (∀ p, p ∈ P ↔ p ∈ Q) → P = Q
  | [], [], _, _, _ => rfl
  | [], q :: Q, _, _, h => by simpa using (h q).2 (by simp)
  | p :: P, [], _, _, h => by simpa using (h p).1 (by simp)
  | p :: P, q :: Q, hP, hQ, h => by
    have hp := List.pairwise_cons.1 hP
    have hq := List.pairwise_cons.1 hQ
    have e : p = q := by
      rcases List.mem_cons.1 ((h p).1 (by simp)) with e | e
      · exact e
      · rcases List.mem_cons.1 ((h q).2 (by simp)) with e' | e'
        · exact e'.symm
        · exact absurd ((hp.1 q e').trans (hq.1 p e)) (Before.irrefl p)
    subst e
    congr 1
    refine sorted_unique P Q hp.2 hq.2 (fun x => ⟨fun hx => ?_, fun hx => ?_⟩)
    · rcases List.mem_cons.1 ((h x).1 (List.mem_cons_of_mem _ hx)) with e | e
      · subst e; exact absurd (hp.1 x hx) (Before.irrefl x)
      · exact e
    · rcases List.mem_cons.1 ((h x).2 (List.mem_cons_of_mem _ hx)) with e | e
      · subst e; exact absurd (hq.1 x hx) (Before.irrefl x)
      · exact e

/-- The functions of a list of parts. -/
def partsOf (f : Fn) (P : List (Nat × Nat)) : List Fn := P.map (fun p => part f p.1 p.2)

theorem sorted_before {P A B : List (Nat × Nat)} {p : Nat × Nat} (h : Sorted P) (e : P = A ++ p :: B) (q : Nat × Nat)
    (hq : q ∈ P) : q ∈ A ↔ Before q p := by
  subst e
  have h1 := List.pairwise_append.1 h
  constructor
  · exact fun ha => h1.2.2 q ha p (by simp)
  · intro hb
    rcases List.mem_append.1 hq with ha | ha
    · exact ha
    · rcases List.mem_cons.1 ha with e | e
      · subst e; exact absurd hb (Before.irrefl _)
      · exact absurd (hb.trans ((List.pairwise_cons.1 h1.2.1).1 q e)) (Before.irrefl _)

theorem Searched.free {f : Fn} {P : List (Nat × Nat)} (h : Searched f P) (hs : Sorted P) :
    Free (fun _ => False) (partsOf f P) := by
  intro A g B e hg
  obtain ⟨A', B', e1, e2, e3⟩ := List.map_eq_append_iff.1 e
  obtain ⟨p, B'', e4, e5, e6⟩ := List.map_eq_cons_iff.1 e3
  subst e4 e5
  refine h.fresh p (by simp [e1]) (hg.mono ?_)
  rintro s (hs' | hs')
  · exact hs'.elim
  · rw [← e2] at hs'
    obtain ⟨q, hq, rfl⟩ := List.mem_map.1 hs'
    have hq' : q ∈ P := by simp [e1, hq]
    exact ⟨q, hq', (sorted_before hs e1 q hq').1 hq, rfl⟩

/-- The least rule of a function. -/
structure Least (f : Fn) (basis : List (Nat × Nat)) (rows : List (List Rat × List Rat)) (firsts : List Rat) : Prop where
  sorted : Sorted basis
  basic : ∀ p, p ∈ basis ↔ Basic f p
  free : Free (fun _ => False) (partsOf f basis)
  whole : Span (· ∈ partsOf f basis) f
  many : rows.length = basis.length
  wide : ∀ i (h : i < rows.length), rows[i].1.length = basis.length ∧ rows[i].2.length = basis.length
  tells : ∀ i (h : i < rows.length) (h' : i < basis.length) n,
    part f basis[i].1 basis[i].2 (2 * n) = lin rows[i].1 (partsOf f basis) n ∧
    part f basis[i].1 basis[i].2 (2 * n + 1) = lin rows[i].2 (partsOf f basis) n
  starts : firsts = (partsOf f basis).map (· 0)

theorem Least.unique {f : Fn} {P Q : List (Nat × Nat)} {R T : List (List Rat × List Rat)} {a b : List Rat}
    (h : Least f P R a) (h' : Least f Q T b) : P = Q ∧ R = T ∧ a = b := by
  have e : P = Q := sorted_unique P Q h.sorted h'.sorted (fun p => (h.basic p).trans (h'.basic p).symm)
  subst e
  refine ⟨rfl, ?_, h.starts.trans h'.starts.symm⟩
  refine List.ext_getElem (h.many.trans h'.many.symm) (fun i h1 h2 => ?_)
  have hi : i < P.length := h.many ▸ h1
  have lp : (partsOf f P).length = P.length := by simp [partsOf]
  refine Prod.ext ?_ ?_
  · exact lin_unique _ _ rfl h.free _ _ (by rw [lp]; exact (h.wide i h1).1) (by rw [lp]; exact (h'.wide i h2).1)
      (fun n => (h.tells i h1 hi n).1.symm.trans (h'.tells i h2 hi n).1)
  · exact lin_unique _ _ rfl h.free _ _ (by rw [lp]; exact (h.wide i h1).2) (by rw [lp]; exact (h'.wide i h2).2)
      (fun n => (h.tells i h1 hi n).2.symm.trans (h'.tells i h2 hi n).2)

/-- Lists of functions with the same values at a place have the same sums there. -/
theorem lin_congr : ∀ (cs : List Rat) (fs gs : List Fn) (n : Nat), fs.map (· n) = gs.map (· n) → lin cs fs n = lin cs gs n
  | [], [], [], _, _ => rfl
  | [], f :: fs, g :: gs, _, _ => rfl
  | c :: cs, [], [], _, _ => rfl
  | c :: cs, f :: fs, g :: gs, n, h => by
    simp only [List.map_cons, List.cons.injEq] at h
    simp only [lin, h.1, lin_congr cs fs gs n h.2]
  | _, [], _ :: _, _, h => by simp at h
  | _, _ :: _, [], _, h => by simp at h

/-- The least rule tells the values of the parts. -/
theorem Least.same {f g : Fn} {P : List (Nat × Nat)} {R : List (List Rat × List Rat)} {a : List Rat}
    (h : Least f P R a) (h' : Least g P R a) : ∀ m n, n ≤ m → (partsOf f P).map (· n) = (partsOf g P).map (· n)
  | m, 0, _ => h.starts.symm.trans h'.starts
  | 0, n + 1, hn => by omega
  | m + 1, n + 1, hn => by
    obtain ⟨k, d, hd, e⟩ : ∃ k d, d < 2 ∧ n + 1 = 2 * k + d := ⟨(n + 1) / 2, (n + 1) % 2, by omega, by omega⟩
    have ih := h.same h' m k (by omega)
    refine List.ext_getElem (by simp [partsOf]) (fun i h1 h2 => ?_)
    have hi : i < P.length := by simpa [partsOf] using h1
    have hr : i < R.length := by rw [h.many]; exact hi
    have key : part f P[i].1 P[i].2 (n + 1) = part g P[i].1 P[i].2 (n + 1) := by
      rw [e]
      rcases (by omega : d = 0 ∨ d = 1) with rfl | rfl
      · exact ((h.tells i hr hi k).1.trans (lin_congr _ _ _ _ ih)).trans (h'.tells i hr hi k).1.symm
      · exact ((h.tells i hr hi k).2.trans (lin_congr _ _ _ _ ih)).trans (h'.tells i hr hi k).2.symm
    simpa [partsOf] using key

/-- Functions with the same least rule are the same. -/
theorem Least.eq {f g : Fn} {P : List (Nat × Nat)} {R : List (List Rat × List Rat)} {a : List Rat}
    (h : Least f P R a) (h' : Least g P R a) : f = g := by
  funext n
  by_cases h0 : (0, 0) ∈ P
  · have := h.same h' n n (Nat.le_refl n)
    obtain ⟨i, hi, e⟩ := List.getElem_of_mem h0
    have e' := congrArg (fun l => l[i]?) this
    simp only [partsOf, List.map_map, List.getElem?_map] at e'
    rw [List.getElem?_eq_getElem hi, e] at e'
    simpa [part] using e'
  · have z : ∀ (u : Fn), ¬ Basic u (0, 0) → u n = 0 := fun u hu => by
      have : Span (Earlier u (0, 0)) u := Classical.byContradiction (fun hn => hu ⟨by simp [IsPart], by
        simpa [part_zero] using hn⟩)
      refine (this.mono (T := fun _ => False) ?_).empty n
      rintro s ⟨q, _, hb, _⟩
      unfold Before at hb; simp at hb
    rw [z f (fun hb => h0 ((h.basic _).2 hb)), z g (fun hb => h0 ((h'.basic _).2 hb))]

end L2.Halves
end S_HalvesParts
section S_HalvesNumbers
/- New numbers: what they are, how they are found, and that there are as many as the rank. Pure. -/
namespace L2.Halves

variable {G H : Fn → Prop} {C D : Nat → Prop}

/-- The values at n of all functions of a kind. -/
def Val (G : Fn → Prop) (n : Nat) : Vec {g // G g} := fun g => g.1 n

/-- Such values at the numbers of a kind. -/
def Vals (G : Fn → Prop) (C : Nat → Prop) (s : Vec {g // G g}) : Prop := ∃ m, C m ∧ s = Val G m

/-- The sum of factors times values. -/
def ev (l : List (Rat × Nat)) (g : Fn) : Rat := (l.map (fun p => p.1 * g p.2)).sum

theorem ev_cons (p : Rat × Nat) (l : List (Rat × Nat)) (g : Fn) : ev (p :: l) g = p.1 * g p.2 + ev l g := by
  simp [ev]

theorem vals_ev {v : Vec {g // G g}} (h : Span (Vals G C) v) :
    ∃ l : List (Rat × Nat), (∀ p, p ∈ l → C p.2) ∧ ∀ g : {g // G g}, v g = ev l g.1 := by
  induction h with
  | zero => exact ⟨[], by simp, fun g => rfl⟩
  | more a s w hs _ ih =>
    obtain ⟨m, hm, rfl⟩ := hs
    obtain ⟨l, hl, e⟩ := ih
    refine ⟨(a, m) :: l, ?_, fun g => by show a * Val G m g + w g = _; rw [ev_cons, e g]; rfl⟩
    intro p hp
    rcases List.mem_cons.1 hp with e | e
    · rw [e]; exact hm
    · exact hl p e

theorem ev_vals : ∀ (l : List (Rat × Nat)), (∀ p, p ∈ l → C p.2) → Span (Vals G C) (fun g => ev l g.1)
  | [], _ => .zero
  | p :: l, h => (Span.more p.1 _ _ ⟨p.2, h p (by simp), rfl⟩ (ev_vals l (fun q hq => h q (by simp [hq])))).congr
      (fun g => (ev_cons p l g.1).symm)

/-- All functions of a kind have at n one and the same combination of their values at numbers of a kind. -/
def Hangs (G : Fn → Prop) (C : Nat → Prop) (n : Nat) : Prop :=
  ∃ l : List (Rat × Nat), (∀ p, p ∈ l → C p.2) ∧ ∀ g, G g → g n = ev l g

theorem hangs_iff {n : Nat} : Hangs G C n ↔ Span (Vals G C) (Val G n) := by
  constructor
  · rintro ⟨l, hl, e⟩
    exact (ev_vals l hl).congr (fun g => (e g.1 g.2).symm)
  · intro h
    obtain ⟨l, hl, e⟩ := vals_ev h
    exact ⟨l, hl, fun g hg => e ⟨g, hg⟩⟩

theorem ev_more (l : List (Rat × Nat)) (a : Rat) (s w : Fn) : ev l (fun n => a * s n + w n) = a * ev l s + ev l w := by
  induction l with
  | nil => simp [ev]; grind
  | cons p l ih => simp only [ev_cons, ih]; grind

theorem ev_zero (l : List (Rat × Nat)) : ev l (fun _ => 0) = 0 := by
  induction l with
  | nil => rfl
  | cons p l ih => simp only [ev_cons, ih]; grind

theorem ev_all {l : List (Rat × Nat)} {n : Nat} (h : ∀ g, G g → g n = ev l g) {g : Fn} (hg : Span G g) : g n = ev l g := by
  induction hg with
  | zero => rw [ev_zero]
  | more a s w hs _ ih => show a * s n + w n = _; rw [ev_more, h s hs, ih]

theorem Hangs.span {n : Nat} (h : Hangs G C n) (e : ∀ g, H g → Span G g) : Hangs H C n := by
  obtain ⟨l, hl, h'⟩ := h
  exact ⟨l, hl, fun g hg => ev_all h' (e g hg)⟩

theorem Hangs.mono {n : Nat} (h : Hangs G C n) (e : ∀ m, C m → D m) : Hangs G D n := by
  obtain ⟨l, hl, h'⟩ := h
  exact ⟨l, fun p hp => e _ (hl p hp), h'⟩

theorem Hangs.of {n : Nat} (h : C n) : Hangs G C n :=
  ⟨[(1, n)], by simpa using h, fun g _ => by simp [ev]; grind⟩

theorem Hangs.trans {n : Nat} (h : Hangs G C n) (e : ∀ m, C m → Hangs G D m) : Hangs G D n := by
  rw [hangs_iff] at *
  refine Span.trans ?_ h
  rintro s ⟨m, hm, rfl⟩
  exact hangs_iff.1 (e m hm)

theorem Hangs.zero {n : Nat} (h : Hangs G C n) {g : Fn} (hg : Span G g) (hz : ∀ m, C m → g m = 0) : g n = 0 := by
  obtain ⟨l, hl, h'⟩ := h
  rw [ev_all h' hg]
  clear h'
  induction l with
  | nil => rfl
  | cons p l ih =>
    rw [ev_cons, hz _ (hl p (by simp)), ih (fun q hq => hl q (by simp [hq]))]; grind

/-- With each function also what it is at 2 n and at 2 n + 1 is a combination of them. -/
def Closed (G : Fn → Prop) : Prop := ∀ g, G g → ∀ d, d < 2 → Span G (half g d)

theorem ev_half (l : List (Rat × Nat)) (g : Fn) (d : Nat) : ev l (half g d) = ev (l.map (fun p => (p.1, 2 * p.2 + d))) g := by
  simp [ev, half, List.map_map, Function.comp_def]

theorem Hangs.half {n d : Nat} (h : Hangs G C n) (hG : Closed G) (hd : d < 2) :
    Hangs G (fun m => ∃ m', C m' ∧ m = 2 * m' + d) (2 * n + d) := by
  obtain ⟨l, hl, h'⟩ := h
  refine ⟨l.map (fun p => (p.1, 2 * p.2 + d)), ?_, fun g hg => ?_⟩
  · intro p hp
    obtain ⟨q, hq, rfl⟩ := List.mem_map.1 hp
    exact ⟨q.2, hl q hq, rfl⟩
  · rw [← ev_half]
    exact ev_all h' (hG g hg d hd)

/-- A number at which the values do not hang on those at lesser numbers. -/
def New (G : Fn → Prop) (n : Nat) : Prop := ¬ Hangs G (· < n) n

theorem New.span {n : Nat} (h : New H n) (e : ∀ g, H g → Span G g) : New G n := fun h' => h (h'.span e)

/-- What the search for new numbers leaves: a list; each of it is new to those before it; each double, and each double
and one, is on it or hangs on those before; and so is 0. -/
structure Sought (G : Fn → Prop) (N : List Nat) : Prop where
  fresh : ∀ n, n ∈ N → ¬ Hangs G (fun m => m ∈ N ∧ m < n) n
  first : 0 ∈ N ∨ ∀ g, G g → g 0 = 0
  kids : ∀ n, n ∈ N → ∀ d, d < 2 → 2 * n + d ∈ N ∨ Hangs G (fun m => m ∈ N ∧ m < 2 * n + d) (2 * n + d)

theorem Sought.upTo {N : List Nat} (h : Sought G N) (hG : Closed G) : ∀ b n, n ≤ b →
    Hangs G (fun m => m ∈ N ∧ m ≤ n) n
  | b, 0, _ => by
    rcases h.first with h1 | h1
    · exact .of ⟨h1, Nat.le_refl 0⟩
    · exact ⟨[], by simp, fun g hg => h1 g hg⟩
  | 0, n + 1, hb => by omega
  | b + 1, n + 1, hb => by
    obtain ⟨k, d, hd, e⟩ : ∃ k d, d < 2 ∧ n + 1 = 2 * k + d := ⟨(n + 1) / 2, (n + 1) % 2, by omega, by omega⟩
    rw [e]
    refine ((h.upTo hG b k (by omega)).half hG hd).trans ?_
    rintro m ⟨m', ⟨hm, hle⟩, rfl⟩
    rcases h.kids m' hm d hd with h1 | h1
    · exact .of ⟨h1, by omega⟩
    · exact h1.mono (fun q hq => ⟨hq.1, by omega⟩)

/-- The list has the new numbers, all of them, and no others. -/
theorem Sought.new {N : List Nat} (h : Sought G N) (hG : Closed G) (n : Nat) : n ∈ N ↔ New G n := by
  constructor
  · intro hn hh
    refine h.fresh n hn (hh.trans (fun m hm => (h.upTo hG m m (Nat.le_refl m)).mono (fun q hq => ⟨hq.1, by omega⟩)))
  · intro hh
    refine Classical.byContradiction (fun hn => hh ((h.upTo hG n n (Nat.le_refl n)).mono (fun q hq => ?_)))
    have : q ≠ n := fun e => hn (e ▸ hq.1)
    omega

/-- What is 0 at all new numbers up to n is 0 at n. -/
theorem Sought.zero {N : List Nat} (h : Sought G N) (hG : Closed G) {g : Fn} (hg : Span G g) (n : Nat)
    (hz : ∀ m, m ∈ N → m ≤ n → g m = 0) : g n = 0 :=
  (h.upTo hG n n (Nat.le_refl n)).zero hg (fun m hm => hz m hm.1 hm.2)

/-- Half of a new number is new. -/
theorem New.div {n : Nat} (h : New G n) (hG : Closed G) : New G (n / 2) := by
  intro hh
  by_cases h0 : n = 0
  · subst h0; exact h hh
  · refine h ?_
    have := hh.half hG (Nat.mod_lt n (by omega : 0 < 2))
    rw [Nat.div_add_mod] at this
    exact this.mono (fun m hm => by obtain ⟨m', h1, h2⟩ := hm; omega)

/-- The vector that is 1 at one place. -/
def unit (i : Nat) : Vec Nat := fun j => if j = i then 1 else 0

theorem span_units : ∀ (k : Nat) (v : Vec Nat), (∀ j, k ≤ j → v j = 0) → Span (· ∈ (List.range k).map unit) v
  | 0, v, h => Span.zero.congr (fun n => (h n (Nat.zero_le n)).symm)
  | k + 1, v, h => by
    have ih := span_units k (fun j => if j = k then 0 else v j) (fun j hj => by
      by_cases e : j = k
      · simp [e]
      · simp only [e, if_false]; exact h j (by omega))
    refine (Span.more (v k) (unit k) _ (List.mem_map.2 ⟨k, by simp, rfl⟩) (ih.mono (fun s hs => ?_))).congr (fun n => ?_)
    · obtain ⟨i, hi, rfl⟩ := List.mem_map.1 hs
      exact List.mem_map.2 ⟨i, by simp at hi ⊢; omega, rfl⟩
    · by_cases e : n = k
      · subst e; simp [unit]; grind
      · simp [unit, e]; grind

theorem free_width {F : List (Vec Nat)} (k : Nat) (h : Free (fun _ => False) F) (hz : ∀ v, v ∈ F → ∀ j, k ≤ j → v j = 0) :
    F.length ≤ k := by
  have := free_le F ((List.range k).map unit) (fun _ => False) h (fun f hf =>
    (span_units k f (hz f hf)).mono (fun s hs => .inr hs))
  simpa using this

/-- The values of some functions at a number, as a row. -/
def rowAt (P : List Fn) (n : Nat) : Vec Nat := fun i => (P[i]?.map (· n)).getD 0

/-- The values of a function at some numbers, as a row. -/
def rowOf (N : List Nat) (f : Fn) : Vec Nat := fun i => (N[i]?.map f).getD 0

theorem rowAt_zero (P : List Fn) (n j : Nat) (h : P.length ≤ j) : rowAt P n j = 0 := by
  simp [rowAt, List.getElem?_eq_none h]

theorem rowOf_zero (N : List Nat) (f : Fn) (j : Nat) (h : N.length ≤ j) : rowOf N f j = 0 := by
  simp [rowOf, List.getElem?_eq_none h]

/-- Rows hang on rows just as the values do. -/
theorem hangs_rows {P : List Fn} {n : Nat} : Hangs (· ∈ P) C n ↔ Span (fun s => ∃ m, C m ∧ s = rowAt P m) (rowAt P n) := by
  constructor
  · intro h
    rw [hangs_iff] at h
    by_cases hP : P = []
    · subst hP; exact Span.zero.congr (fun i => by simp [rowAt])
    · obtain ⟨l, hl, e⟩ := vals_ev h
      have : ∀ l : List (Rat × Nat), (∀ p, p ∈ l → C p.2) → Span (fun s => ∃ m, C m ∧ s = rowAt P m)
          (fun i => (P[i]?.map (fun g => ev l g)).getD 0) := by
        intro l
        induction l with
        | nil => intro _; exact Span.zero.congr (fun i => by cases P[i]? <;> simp [ev])
        | cons p l ih =>
          intro hl
          refine (Span.more p.1 (rowAt P p.2) _ ⟨p.2, hl p (by simp), rfl⟩ (ih (fun q hq => hl q (by simp [hq])))).congr
            (fun i => ?_)
          cases hi : P[i]? <;> simp [rowAt, hi, ev_cons]; grind
      refine (this l hl).congr (fun i => ?_)
      cases hi : P[i]? with
      | none => simp [rowAt, hi]
      | some g => simpa [rowAt, hi, Val] using (e ⟨g, List.mem_of_getElem? hi⟩).symm
  · intro h
    rw [hangs_iff]
    have key : ∀ g : {g // g ∈ P}, ∃ i, P[i]? = some g.1 := fun g => by
      obtain ⟨i, hi, e⟩ := List.getElem_of_mem g.2
      exact ⟨i, by rw [List.getElem?_eq_getElem hi, e]⟩
    have e : ∀ (m : Nat) (g : {g // g ∈ P}), rowAt P m (Classical.choose (key g)) = Val (· ∈ P) m g := fun m g => by
      simp [rowAt, Classical.choose_spec (key g), Val]
    refine (h.at (T := Vals (· ∈ P) C) (fun g => Classical.choose (key g)) ?_).congr (e n)
    rintro s ⟨m, hm, rfl⟩
    exact (Span.of ⟨m, hm, rfl⟩).congr (fun g => (e m g).symm)

/-- The functions are free just by their values at the new numbers. -/
theorem Sought.rows {N : List Nat} (h : Sought G N) (hG : Closed G) {A : Fn → Prop} (hA : ∀ a, A a → Span G a) {f : Fn}
    (hf : Span G f) : Span A f ↔ Span (fun s => ∃ a, A a ∧ s = rowOf N a) (rowOf N f) := by
  constructor
  · intro h'
    have key : ∀ v, Span A v → Span (fun s => ∃ a, A a ∧ s = rowOf N a) (rowOf N v) := by
      intro v hv
      induction hv with
      | zero => exact Span.zero.congr (fun i => by cases hi : N[i]? <;> simp [rowOf, hi])
      | more a s w hs _ ih =>
        refine (Span.more a (rowOf N s) _ ⟨s, hs, rfl⟩ ih).congr (fun i => ?_)
        cases hi : N[i]? <;> simp [rowOf, hi]; grind
    exact key f h'
  · intro h'
    have key : ∀ v, Span (fun s => ∃ a, A a ∧ s = rowOf N a) v → ∃ w, Span A w ∧ ∀ i, v i = rowOf N w i := by
      intro v hv
      induction hv with
      | zero => exact ⟨_, .zero, fun i => by cases hi : N[i]? <;> simp [rowOf, hi]⟩
      | more a s w hs _ ih =>
        obtain ⟨b, hb, rfl⟩ := hs
        obtain ⟨u, hu, e⟩ := ih
        refine ⟨_, .more a b u hb hu, fun i => ?_⟩
        show a * rowOf N b i + w i = _
        rw [e i]
        cases hi : N[i]? <;> simp [rowOf, hi]; grind
    obtain ⟨w, hw, e⟩ := key _ h'
    refine hw.congr (fun n => ?_)
    have hd : Span G (fun n => (-1) * w n + f n) := ((hw.trans hA).smul (-1)).add hf
    have := h.zero hG hd n (fun m hm _ => by
      obtain ⟨i, hi, e'⟩ := List.getElem_of_mem hm
      have := e i
      simp only [rowOf, List.getElem?_eq_getElem hi, Option.map_some, Option.getD_some, e'] at this
      grind)
    grind

theorem mem_split_lt {N A B : List Nat} {n : Nat} (h : N.Pairwise (· < ·)) (e : N = A ++ n :: B) (q : Nat) :
    q ∈ A → q ∈ N ∧ q < n := by
  subst e
  intro hq
  exact ⟨by simp [hq], (List.pairwise_append.1 h).2.2 q hq n (by simp)⟩

/-- There are as many new numbers as there are free functions that make all. -/
theorem Sought.many {N : List Nat} {P : List Fn} (h : Sought (· ∈ P) N) (hs : N.Pairwise (· < ·)) (hG : Closed (· ∈ P))
    (hP : Free (fun _ => False) P) : N.length = P.length := by
  apply Nat.le_antisymm
  · have : ((N.map (rowAt P)).length : Nat) ≤ P.length := by
      refine free_width _ ?_ ?_
      · intro A g B e hg
        obtain ⟨A', B', e1, e2, e3⟩ := List.map_eq_append_iff.1 e
        obtain ⟨p, B'', e4, e5, e6⟩ := List.map_eq_cons_iff.1 e3
        subst e4 e5
        refine h.fresh p (by simp [e1]) (hangs_rows.2 (hg.mono ?_))
        rintro s (hs' | hs')
        · exact hs'.elim
        · rw [← e2] at hs'
          obtain ⟨q, hq, rfl⟩ := List.mem_map.1 hs'
          exact ⟨q, mem_split_lt hs e1 q hq, rfl⟩
      · intro v hv j hj
        obtain ⟨n, _, rfl⟩ := List.mem_map.1 hv
        exact rowAt_zero P n j hj
    simpa using this
  · have : ((P.map (rowOf N)).length : Nat) ≤ N.length := by
      refine free_width _ ?_ ?_
      · intro A g B e hg
        obtain ⟨A', B', e1, e2, e3⟩ := List.map_eq_append_iff.1 e
        obtain ⟨p, B'', e4, e5, e6⟩ := List.map_eq_cons_iff.1 e3
        subst e4 e5
        refine hP A' p B'' e1 (Span.mono (fun s hs => .inr hs) ?_)
        refine (h.rows hG (A := (· ∈ A')) (fun a ha => .of (by simp [e1, ha])) (.of (by simp [e1]))).2 (hg.mono ?_)
        rintro s (hs' | hs')
        · exact hs'.elim
        · rw [← e2] at hs'
          obtain ⟨q, hq, rfl⟩ := List.mem_map.1 hs'
          exact ⟨q, hq, rfl⟩
      · intro v hv j hj
        obtain ⟨f, _, rfl⟩ := List.mem_map.1 hv
        exact rowOf_zero N f j hj
    simpa using this

end L2.Halves
end S_HalvesNumbers
section S_HalvesMade
/- From the search to the least rule; ranks of functions that are told by lines; echelons. Pure. -/
namespace L2.Halves

/-- The search for basic parts with the rows of each of them is the least rule. -/
theorem Searched.least {f : Fn} {P : List (Nat × Nat)} {rows : List (List Rat × List Rat)} {firsts : List Rat}
    (h : Searched f P) (hs : Sorted P) (many : rows.length = P.length)
    (wide : ∀ i (_ : i < rows.length), rows[i].1.length = P.length ∧ rows[i].2.length = P.length)
    (tells : ∀ i (_ : i < rows.length) (_ : i < P.length) n,
      part f P[i].1 P[i].2 (2 * n) = lin rows[i].1 (partsOf f P) n ∧
      part f P[i].1 P[i].2 (2 * n + 1) = lin rows[i].2 (partsOf f P) n)
    (starts : firsts = (partsOf f P).map (· 0)) : Least f P rows firsts :=
  { sorted := hs, basic := h.basic, free := h.free hs, many := many, wide := wide, tells := tells, starts := starts
    whole := by
      have := h.upTo 0 0 (by simp)
      rw [part_zero] at this
      refine this.mono ?_
      rintro s ⟨q, hq, _, rfl⟩
      exact List.mem_map.2 ⟨q, hq, rfl⟩ }

/-- All parts of a function are combinations of functions of a closed kind, if it is one. -/
theorem part_span {G : Fn → Prop} (hG : Closed G) {f : Fn} (hf : Span G f) : ∀ k r, r < 2 ^ k → Span G (part f k r)
  | 0, r, hr => by
    have : r = 0 := by simp at hr; omega
    subst this
    rw [part_zero]; exact hf
  | k + 1, r, hr => by
    obtain ⟨d, r', hd, hr', e⟩ : ∃ d r', d < 2 ∧ r' < 2 ^ k ∧ r = r' + d * 2 ^ k := by
      rw [Nat.pow_succ] at hr
      by_cases c : r < 2 ^ k
      · exact ⟨0, r, by omega, c, by omega⟩
      · exact ⟨1, r - 2 ^ k, by omega, by omega, by omega⟩
    subst e
    rw [← half_part]
    exact (part_span hG hf k r' hr').half d (fun s hs => hG s hs d hd)

theorem Span.closed {G : Fn → Prop} (hG : Closed G) {g : Fn} (hg : Span G g) (d : Nat) (hd : d < 2) : Span G (L2.Halves.half g d) :=
  hg.half d (fun s hs => hG s hs d hd)

/-- The rank is at most the number of functions of which all parts are combinations. -/
theorem Least.rank_le {f : Fn} {P : List (Nat × Nat)} {rows : List (List Rat × List Rat)} {firsts : List Rat}
    (h : Least f P rows firsts) (M : List Fn) (hM : ∀ k r, r < 2 ^ k → Span (· ∈ M) (part f k r)) :
    P.length ≤ M.length := by
  have := free_le (partsOf f P) M (fun _ => False) h.free (fun g hg => by
    obtain ⟨p, hp, rfl⟩ := List.mem_map.1 hg
    exact (hM p.1 p.2 ((h.basic p).1 hp).1).mono (fun s hs => .inr hs))
  simpa [partsOf] using this

/-- The parts of the least rule are closed. -/
theorem Least.closed {f : Fn} {P : List (Nat × Nat)} {rows : List (List Rat × List Rat)} {firsts : List Rat}
    (h : Least f P rows firsts) : Closed (· ∈ partsOf f P) := by
  intro g hg d hd
  obtain ⟨i, hi, e⟩ := List.getElem_of_mem hg
  have hi' : i < P.length := by simpa [partsOf] using hi
  have hr : i < rows.length := by rw [h.many]; exact hi'
  have eg : g = part f P[i].1 P[i].2 := by rw [← e]; simp [partsOf]
  rcases (by omega : d = 0 ∨ d = 1) with rfl | rfl
  · exact (lin_span rows[i].1 (partsOf f P)).congr (fun n => by
      rw [eg]; exact (h.tells i hr hi' n).1.symm)
  · exact (lin_span rows[i].2 (partsOf f P)).congr (fun n => by
      rw [eg]; exact (h.tells i hr hi' n).2.symm)

/-- Numbers that are new one by one for some functions are no more than the functions of which these are combinations. -/
theorem fresh_le {G : Fn → Prop} {N : List Nat} {M : List Fn} (hs : N.Pairwise (· < ·))
    (fresh : ∀ n, n ∈ N → ¬ Hangs G (fun m => m ∈ N ∧ m < n) n) (hM : ∀ g, G g → Span (· ∈ M) g) :
    N.length ≤ M.length := by
  have : ((N.map (rowAt M)).length : Nat) ≤ M.length := by
    refine free_width _ ?_ ?_
    · intro A g B e hg
      obtain ⟨A', B', e1, e2, e3⟩ := List.map_eq_append_iff.1 e
      obtain ⟨p, B'', e4, e5, e6⟩ := List.map_eq_cons_iff.1 e3
      subst e4 e5
      refine fresh p (by simp [e1]) (Hangs.span (hangs_rows.2 (hg.mono ?_)) hM)
      rintro s (hs' | hs')
      · exact hs'.elim
      · rw [← e2] at hs'
        obtain ⟨q, hq, rfl⟩ := List.mem_map.1 hs'
        exact ⟨q, mem_split_lt hs e1 q hq, rfl⟩
    · intro v hv j hj
      obtain ⟨n, _, rfl⟩ := List.mem_map.1 hv
      exact rowAt_zero M n j hj
  simpa using this

/-! ### Echelons -/

/-- Pairs of a place and a row that is not 0 there, while all later rows are. -/
def Ech : List (Nat × Vec Nat) → Prop
  | [] => True
  | (p, r) :: E => r p ≠ 0 ∧ (∀ q, q ∈ E → q.2 p = 0) ∧ Ech E

def rowsOf (E : List (Nat × Vec Nat)) : List (Vec Nat) := E.map (·.2)

/-- A multiple of v, not by 0, less a combination of the rows, that is 0 at all their places. -/
def Red (E : List (Nat × Vec Nat)) (v u : Vec Nat) : Prop :=
  (∃ k w, k ≠ 0 ∧ Span (· ∈ rowsOf E) w ∧ ∀ i, u i = k * v i + w i) ∧ ∀ q, q ∈ E → u q.1 = 0

theorem ech_zero : ∀ (E : List (Nat × Vec Nat)) (u : Vec Nat), Ech E → Span (· ∈ rowsOf E) u → (∀ q, q ∈ E → u q.1 = 0) →
    ∀ i, u i = 0
  | [], u, _, h, _ => (h.mono (T := fun _ => False) (fun s hs => by simp [rowsOf] at hs)).empty
  | (p, r) :: E, u, hE, h, hz => by
    obtain ⟨h1, h2, h3⟩ := hE
    obtain ⟨c, w, hw, e⟩ := (h.mono (T := fun x => x = r ∨ x ∈ rowsOf E) (fun s hs => by
      simpa [rowsOf] using hs)).cons
    have wp : w p = 0 := hw.zero_at p (fun s hs => by
      obtain ⟨q, hq, rfl⟩ := List.mem_map.1 hs
      exact h2 q hq)
    have up := hz (p, r) (by simp)
    have hc : c = 0 := by
      have := e p
      rw [up, wp] at this
      have h' : c * r p = 0 := by grind
      rcases Rat.mul_eq_zero.1 h' with h' | h'
      · exact h'
      · exact absurd h' h1
    have eu : ∀ n, u n = w n := fun n => by rw [e n, hc]; grind
    have hu : Span (· ∈ rowsOf E) u := hw.congr (fun n => (eu n).symm)
    exact ech_zero E u h3 hu (fun q hq => hz q (by simp [hq]))

theorem Red.iff {E : List (Nat × Vec Nat)} {v u : Vec Nat} (h : Red E v u) (hE : Ech E) :
    Span (· ∈ rowsOf E) v ↔ ∀ i, u i = 0 := by
  obtain ⟨⟨k, w, hk, hw, e⟩, hz⟩ := h
  constructor
  · intro hv
    exact ech_zero E u hE (((hv.smul k).add hw).congr (fun i => (e i).symm)) hz
  · intro h0
    exact (hw.smul (-1 / k)).congr (fun i => by
      have := e i
      rw [h0 i] at this
      grind)

theorem ech_snoc : ∀ (E : List (Nat × Vec Nat)) (p : Nat) (u : Vec Nat), Ech E → (∀ q, q ∈ E → u q.1 = 0) → u p ≠ 0 →
    Ech (E ++ [(p, u)])
  | [], p, u, _, _, hp => ⟨hp, by simp, trivial⟩
  | (q, r) :: E, p, u, hE, hz, hp => by
    obtain ⟨h1, h2, h3⟩ := hE
    refine ⟨h1, fun q' hq' => ?_, ech_snoc E p u h3 (fun q' hq' => hz q' (by simp [hq'])) hp⟩
    rcases List.mem_append.1 hq' with h | h
    · exact h2 q' h
    · simp at h; subst h; exact hz (q, r) (by simp)

theorem Red.snoc {E : List (Nat × Vec Nat)} {v u : Vec Nat} (h : Red E v u) (hE : Ech E) {p : Nat} (hp : u p ≠ 0) :
    Ech (E ++ [(p, u)]) ∧ ∀ x, Span (· ∈ rowsOf (E ++ [(p, u)])) x ↔ Span (fun s => s = v ∨ s ∈ rowsOf E) x := by
  refine ⟨ech_snoc E p u hE h.2 hp, fun x => ?_⟩
  obtain ⟨⟨k, w, hk, hw, e⟩, hz⟩ := h
  have em : ∀ s, s ∈ rowsOf (E ++ [(p, u)]) ↔ s ∈ rowsOf E ∨ s = u := fun s => by simp [rowsOf]
  constructor
  · intro hx
    refine hx.trans (fun s hs => ?_)
    rcases (em s).1 hs with h | h
    · exact .of (.inr h)
    · subst h
      exact (((Span.of (.inl rfl)).smul k).add (hw.mono (fun t ht => .inr ht))).congr (fun i => (e i).symm)
  · intro hx
    refine hx.trans (fun s hs => ?_)
    rcases hs with h | h
    · subst h
      have h1 : Span (· ∈ rowsOf (E ++ [(p, u)])) (fun i => (1 / k) * u i) := (Span.of ((em u).2 (.inr rfl))).smul _
      have h2 : Span (· ∈ rowsOf (E ++ [(p, u)])) (fun i => (-1 / k) * w i) :=
        (hw.mono (fun t ht => (em t).2 (.inl ht))).smul _
      exact (h1.add h2).congr (fun i => by have := e i; grind)
    · exact .of ((em s).2 (.inl h))

/-- One step of the way: cleared by the row at its place. -/
theorem Red.step {E : List (Nat × Vec Nat)} {p : Nat} {r v u : Vec Nat} {k l : Rat} (h : Red E v u) (hE : ∀ q, q ∈ E → r q.1 = 0)
    (hk : k ≠ 0) (u' : Vec Nat) (e : ∀ i, u' i = k * u i - l * r i) (hp : u' p = 0) : Red (E ++ [(p, r)]) v u' := by
  obtain ⟨⟨k', w, hk', hw, e'⟩, hz⟩ := h
  have em : ∀ s, s ∈ rowsOf (E ++ [(p, r)]) ↔ s ∈ rowsOf E ∨ s = r := fun s => by simp [rowsOf]
  refine ⟨⟨k * k', _, ?_, ((hw.mono (fun t ht => (em t).2 (.inl ht))).smul k).add
    ((Span.of ((em r).2 (.inr rfl))).smul (-l)), fun i => ?_⟩, fun q hq => ?_⟩
  · intro h0; rcases Rat.mul_eq_zero.1 h0 with h | h
    · exact hk h
    · exact hk' h
  · rw [e i, e' i]; grind
  · rcases List.mem_append.1 hq with h | h
    · rw [e, hz q h, hE q h]; grind
    · simp at h; subst h; exact hp

end L2.Halves
end S_HalvesMade
section S_HalvesRows
/- Sparse rows of integers as lists of pairs (index, integer) in the order of insertion: get, put, trimmed, cleared,
reduced, least index; and that they are echelon steps. Pure. -/
namespace L2.Halves

abbrev Row := List (Nat × Int)

/-- The integer at an index, 0 where there is none. -/
def get : Row → Nat → Int
  | [], _ => 0
  | (k, v) :: r, i => if k = i then v else get r i

def has (r : Row) (i : Nat) : Bool := r.any (fun p => p.1 == i)

/-- A store: in its place, or behind all others. -/
def put : Row → Nat → Int → Row
  | [], i, w => [(i, w)]
  | (k, v) :: r, i, w => if k = i then (k, w) :: r else (k, v) :: put r i w

def keys (r : Row) : List Nat := r.map (·.1)

/-- No index twice, no 0. -/
structure Clean (r : Row) : Prop where
  nodup : (keys r).Nodup
  nz : ∀ p, p ∈ r → p.2 ≠ 0

theorem get_of_not_mem : ∀ (r : Row) (i : Nat), i ∉ keys r → get r i = 0
  | [], _, _ => rfl
  | (k, v) :: r, i, h => by
    have h1 : ¬ i = k ∧ i ∉ keys r := by simpa [keys] using h
    simp only [get]
    rw [if_neg (fun e => h1.1 e.symm)]
    exact get_of_not_mem r i h1.2

theorem get_of_mem : ∀ (r : Row) (p : Nat × Int), (keys r).Nodup → p ∈ r → get r p.1 = p.2
  | [], _, _, h => by simp at h
  | (k, v) :: r, p, hn, h => by
    have hn' : k ∉ keys r ∧ (keys r).Nodup := by simpa [keys] using hn
    rcases List.mem_cons.1 h with e | h
    · subst e; simp [get]
    · have : k ≠ p.1 := fun e => hn'.1 (e ▸ List.mem_map.2 ⟨p, h, rfl⟩)
      simp only [get, if_neg this]
      exact get_of_mem r p hn'.2 h

theorem mem_keys_of_get {r : Row} {i : Nat} (h : get r i ≠ 0) : i ∈ keys r :=
  Classical.byContradiction (fun hn => h (get_of_not_mem r i hn))

theorem Clean.get_ne {r : Row} (h : Clean r) {i : Nat} : get r i ≠ 0 ↔ i ∈ keys r := by
  constructor
  · exact mem_keys_of_get
  · intro hi
    obtain ⟨p, hp, rfl⟩ := List.mem_map.1 hi
    rw [get_of_mem r p h.nodup hp]
    exact h.nz p hp

theorem has_iff (r : Row) (i : Nat) : has r i = true ↔ i ∈ keys r := by
  simp [has, keys]

theorem get_put : ∀ (r : Row) (i : Nat) (w : Int) (j : Nat), get (put r i w) j = if j = i then w else get r j
  | [], i, w, j => by
    simp only [put, get]
    by_cases e : i = j
    · simp [e]
    · simp [e, Ne.symm e]
  | (k, v) :: r, i, w, j => by
    simp only [put]
    by_cases e : k = i
    · subst e
      simp only [if_true, get]
      by_cases e' : k = j
      · simp [e']
      · simp [e', Ne.symm e']
    · simp only [if_neg e, get, get_put r i w j]
      by_cases e' : k = j
      · subst e'; simp [e]
      · simp [e']

theorem mem_keys_put : ∀ (r : Row) (i : Nat) (w : Int) (j : Nat), j ∈ keys (put r i w) ↔ j = i ∨ j ∈ keys r
  | [], i, w, j => by simp [put, keys]
  | (k, v) :: r, i, w, j => by
    simp only [put]
    by_cases e : k = i
    · subst e; simp [keys]
    · have := mem_keys_put r i w j
      simp only [if_neg e, keys, List.map_cons, List.mem_cons] at this ⊢
      rw [this]
      constructor <;> (intro h; rcases h with h | h | h <;> simp [h])

theorem nodup_put : ∀ (r : Row) (i : Nat) (w : Int), (keys r).Nodup → (keys (put r i w)).Nodup
  | [], i, w, _ => by simp [put, keys]
  | (k, v) :: r, i, w, h => by
    have h' : k ∉ keys r ∧ (keys r).Nodup := by simpa [keys] using h
    simp only [put]
    by_cases e : k = i
    · subst e; simp only [if_true]; simpa [keys] using h'
    · simp only [if_neg e]
      have h1 := nodup_put r i w h'.2
      have h2 : k ∉ keys (put r i w) := fun hk => by
        rcases (mem_keys_put r i w k).1 hk with h | h
        · exact e h
        · exact h'.1 h
      simpa [keys] using And.intro h2 h1

/-- The greatest common divisor of a row, as it is worked out: it ends at 1. -/
def common : Row → Nat → Nat
  | [], c => c
  | (_, v) :: r, c => if Int.gcd c v = 1 then 1 else common r (Int.gcd c v)

theorem common_dvd : ∀ (r : Row) (c : Nat), (common r c : Int) ∣ c ∧ ∀ p, p ∈ r → (common r c : Int) ∣ p.2
  | [], c => ⟨Int.dvd_refl _, by simp⟩
  | (k, v) :: r, c => by
    simp only [common]
    by_cases e : Int.gcd c v = 1
    · simp only [if_pos e]
      refine ⟨⟨(c : Int), by simp⟩, fun p _ => ⟨p.2, by simp⟩⟩
    · simp only [if_neg e]
      have ih := common_dvd r (Int.gcd c v)
      refine ⟨Int.dvd_trans ih.1 (Int.gcd_dvd_left ..), fun p hp => ?_⟩
      rcases List.mem_cons.1 hp with h | h
      · subst h; exact Int.dvd_trans ih.1 (Int.gcd_dvd_right ..)
      · exact ih.2 p h

theorem common_pos : ∀ (r : Row) (c : Nat), (0 < c ∨ ∃ p, p ∈ r ∧ p.2 ≠ 0) → 0 < common r c
  | [], c, h => by rcases h with h | ⟨p, hp, _⟩ <;> simp_all [common]
  | (k, v) :: r, c, h => by
    simp only [common]
    by_cases e : Int.gcd c v = 1
    · simp [e]
    · simp only [if_neg e]
      refine common_pos r _ ?_
      by_cases h0 : 0 < Int.gcd c v
      · exact .inl h0
      · right
        have h0' : Int.gcd (c : Int) v = 0 := by omega
        rw [Int.gcd_eq_zero_iff] at h0'
        rcases h with h | ⟨p, hp, hv⟩
        · omega
        · rcases List.mem_cons.1 hp with h | h
          · subst h; exact absurd h0'.2 hv
          · exact ⟨p, h, hv⟩

/-- Without zeros, divided by what divides all of it. -/
def trimmed (r : Row) : Row :=
  (r.filter (fun p => p.2 != 0)).map (fun p => (p.1, p.2 / (common r 0 : Int)))

theorem keys_trimmed_sub (r : Row) : (keys (trimmed r)).Sublist (keys r) := by
  simp only [keys, trimmed, List.map_map, Function.comp_def]
  exact (List.filter_sublist).map _

theorem get_map_filter (c : Int) : ∀ (r : Row) (i : Nat), (keys r).Nodup →
    get ((r.filter (fun p => p.2 != 0)).map (fun p => (p.1, p.2 / c))) i = get r i / c
  | [], i, _ => by simp [get]
  | (k, v) :: r, i, h => by
    have h' : k ∉ keys r ∧ (keys r).Nodup := by simpa [keys] using h
    have ih := get_map_filter c r i h'.2
    by_cases hv : v = 0
    · subst hv
      simp only [List.filter_cons, bne_self_eq_false, Bool.false_eq_true, if_false, ih, get]
      by_cases e : k = i
      · subst e; rw [if_pos rfl, get_of_not_mem r k h'.1]
      · rw [if_neg e]
    · have : (v != 0) = true := by simpa using hv
      simp only [List.filter_cons, this, if_true, List.map_cons, get]
      by_cases e : k = i
      · simp [e]
      · simp [e, ih]

theorem trimmed_spec (r : Row) (h : (keys r).Nodup) :
    Clean (trimmed r) ∧ (∃ c : Int, 0 < c ∧ ∀ i, c * get (trimmed r) i = get r i) := by
  by_cases hz : ∃ p, p ∈ r ∧ p.2 ≠ 0
  · have hp : 0 < common r 0 := common_pos r 0 (.inr hz)
    have hd := (common_dvd r 0).2
    refine ⟨⟨(keys_trimmed_sub r).nodup h, fun p hp' => ?_⟩, common r 0, by omega, fun i => ?_⟩
    · obtain ⟨q, hq, rfl⟩ := List.mem_map.1 hp'
      have hq' := List.mem_filter.1 hq
      have hq2 : q.2 ≠ 0 := by simpa using hq'.2
      obtain ⟨t, ht⟩ := hd q hq'.1
      have hc : (common r 0 : Int) ≠ 0 := by omega
      show q.2 / (common r 0 : Int) ≠ 0
      rw [ht, Int.mul_ediv_cancel_left _ hc]
      intro h0; rw [h0] at ht; simp at ht; exact hq2 ht
    · show (common r 0 : Int) * get ((r.filter (fun p => p.2 != 0)).map (fun p => (p.1, p.2 / (common r 0 : Int)))) i = _
      rw [get_map_filter _ _ _ h]
      by_cases hi : i ∈ keys r
      · obtain ⟨p, hp', rfl⟩ := List.mem_map.1 hi
        rw [get_of_mem r p h hp']
        exact Int.mul_ediv_cancel' (hd p hp')
      · rw [get_of_not_mem r i hi]; simp
  · have hz' : ∀ p, p ∈ r → p.2 = 0 := fun p hp => Classical.byContradiction (fun hn => hz ⟨p, hp, hn⟩)
    have e : trimmed r = [] := by
      simp only [trimmed, List.map_eq_nil_iff, List.filter_eq_nil_iff]
      intro p hp; simp [hz' p hp]
    rw [e]
    refine ⟨⟨by simp [keys], by simp⟩, 1, by decide, fun i => ?_⟩
    by_cases hi : i ∈ keys r
    · obtain ⟨p, hp', rfl⟩ := List.mem_map.1 hi
      rw [get_of_mem r p h hp', hz' p hp']; simp [get]
    · rw [get_of_not_mem r i hi]; simp [get]

/-- The first loop: all items times a number. -/
def timesRow (t : Int) (r : Row) : Row := r.map (fun p => (p.1, t * p.2))

theorem keys_times (t : Int) (r : Row) : keys (timesRow t r) = keys r := by simp [keys, timesRow]

theorem get_times (t : Int) : ∀ (r : Row) (i : Nat), get (timesRow t r) i = t * get r i
  | [], i => by simp [timesRow, get]
  | (k, v) :: r, i => by
    have := get_times t r i
    simp only [timesRow, List.map_cons, get] at this ⊢
    by_cases e : k = i
    · simp [e]
    · simp [e, this]

/-- The second loop: less so many times the other row. -/
def lessRow (m : Int) (mixed : Row) : Row → Row
  | [] => mixed
  | (k, v) :: r => lessRow m (put mixed k (get mixed k - m * v)) r

theorem nodup_less (m : Int) : ∀ (r mixed : Row), (keys mixed).Nodup → (keys (lessRow m mixed r)).Nodup
  | [], _, h => h
  | (k, v) :: r, mixed, h => nodup_less m r _ (nodup_put mixed k _ h)

theorem get_less (m : Int) : ∀ (r mixed : Row) (i : Nat), (keys r).Nodup →
    get (lessRow m mixed r) i = get mixed i - m * get r i
  | [], mixed, i, _ => by simp [lessRow, get]
  | (k, v) :: r, mixed, i, h => by
    have h' : k ∉ keys r ∧ (keys r).Nodup := by simpa [keys] using h
    simp only [lessRow, get_less m r _ i h'.2, get_put, get]
    by_cases e : k = i
    · subst e; rw [if_pos rfl, if_pos rfl, get_of_not_mem r k h'.1]; simp
    · rw [if_neg (Ne.symm e), if_neg e]

/-- A multiple of the row less one of the other, so that it is 0 at the pivot. -/
def cleared (row other : Row) (p : Nat) : Row :=
  let c : Int := Int.gcd (get row p) (get other p)
  trimmed (lessRow (get row p / c) (timesRow (get other p / c) row) other)

/-- The row as a vector of fractions. -/
def val (r : Row) : Vec Nat := fun i => (get r i : Rat)

theorem val_zero {r : Row} {i : Nat} : val r i = 0 ↔ get r i = 0 := by
  simp [val, Rat.intCast_eq_zero_iff]

theorem cleared_spec {row other : Row} (h1 : Clean row) (h2 : Clean other) (p : Nat) (hp : get row p ≠ 0)
    (hq : get other p ≠ 0) :
    Clean (cleared row other p) ∧ get (cleared row other p) p = 0 ∧
    ∃ k l : Rat, k ≠ 0 ∧ ∀ i, val (cleared row other p) i = k * val row i - l * val other i := by
  have hc : (0 : Int) < Int.gcd (get row p) (get other p) := by
    have : Int.gcd (get row p) (get other p) ≠ 0 := by
      intro h; rw [Int.gcd_eq_zero_iff] at h; exact hp h.1
    omega
  generalize hcc : (Int.gcd (get row p) (get other p) : Int) = c at hc
  obtain ⟨s, hs⟩ : c ∣ get row p := hcc ▸ Int.gcd_dvd_left ..
  obtain ⟨t, ht⟩ : c ∣ get other p := hcc ▸ Int.gcd_dvd_right ..
  have es : get row p / c = s := by rw [hs, Int.mul_ediv_cancel_left _ (by omega)]
  have et : get other p / c = t := by rw [ht, Int.mul_ediv_cancel_left _ (by omega)]
  have hn : (keys (lessRow s (timesRow t row) other)).Nodup :=
    nodup_less s other _ (by rw [keys_times]; exact h1.nodup)
  obtain ⟨hcl, d, hd, e⟩ := trimmed_spec _ hn
  have ecl : cleared row other p = trimmed (lessRow s (timesRow t row) other) := by
    simp only [cleared, hcc, es, et]
  have e' : ∀ i, d * get (cleared row other p) i = t * get row i - s * get other i := fun i => by
    rw [ecl, e i, get_less s other _ i h2.nodup, get_times]
  have ht0 : t ≠ 0 := by intro h; rw [h] at ht; simp at ht; exact hq ht
  refine ⟨ecl ▸ hcl, ?_, (t : Rat) / d, (s : Rat) / d, ?_, fun i => ?_⟩
  · have := e' p
    rw [hs, ht] at this
    have h0 : d * get (cleared row other p) p = 0 := by rw [this]; grind
    rcases Int.mul_eq_zero.1 h0 with h | h
    · omega
    · exact h
  · have h1 : (t : Rat) ≠ 0 := by simpa [Rat.intCast_eq_zero_iff] using ht0
    have h2 : (d : Rat) ≠ 0 := by simpa [Rat.intCast_eq_zero_iff] using (show d ≠ 0 by omega)
    intro h; apply h1; grind
  · have := congrArg (fun x : Int => (x : Rat)) (e' i)
    simp only [Rat.intCast_mul, Rat.intCast_sub] at this
    have h2 : (d : Rat) ≠ 0 := by simpa [Rat.intCast_eq_zero_iff] using (show d ≠ 0 by omega)
    show (get (cleared row other p) i : Rat) = _ * (get row i : Rat) - _ * (get other i : Rat)
    grind

/-- By all rows of an echelon, one behind the other. -/
def reduced (row : Row) : List (Nat × Row) → Row
  | [] => row
  | (p, r) :: E => reduced (if has row p then cleared row r p else row) E

def vals (E : List (Nat × Row)) : List (Nat × Vec Nat) := E.map (fun q => (q.1, val q.2))

theorem ech_head {p : Nat} {r : Vec Nat} {E : List (Nat × Vec Nat)} (h : Ech ((p, r) :: E)) : r p ≠ 0 := h.1

theorem ech_later : ∀ (A : List (Nat × Vec Nat)) (q : Nat × Vec Nat) (B : List (Nat × Vec Nat)), Ech (A ++ q :: B) →
    (∀ a, a ∈ A → q.2 a.1 = 0) ∧ q.2 q.1 ≠ 0
  | [], q, B, h => ⟨by simp, h.1⟩
  | (p, r) :: A, q, B, h => by
    obtain ⟨_, h2, h3⟩ := h
    have ih := ech_later A q B h3
    refine ⟨fun a ha => ?_, ih.2⟩
    rcases List.mem_cons.1 ha with e | e
    · subst e; exact h2 q (by simp)
    · exact ih.1 a e

theorem reduced_aux : ∀ (E A : List (Nat × Row)) (row0 : Vec Nat) (row : Row), Ech (vals (A ++ E)) →
    (∀ q, q ∈ A ++ E → Clean q.2) → Clean row → Red (vals A) row0 (val row) →
    Clean (reduced row E) ∧ Red (vals (A ++ E)) row0 (val (reduced row E))
  | [], A, row0, row, _, _, hr, h => by rw [List.append_nil]; exact ⟨hr, h⟩
  | (p, r) :: E, A, row0, row, hE, hc, hr, h => by
    have hl := ech_later (vals A) (p, val r) (vals E) (by simpa [vals] using hE)
    have hz : ∀ q, q ∈ vals A → val r q.1 = 0 := hl.1
    have hrp : get r p ≠ 0 := fun e => hl.2 (val_zero.2 e)
    have hcr : Clean r := hc (p, r) (by simp)
    have ea : vals (A ++ [(p, r)]) = vals A ++ [(p, val r)] := by simp [vals]
    simp only [reduced]
    have fin : ∀ row' : Row, Clean row' → Red (vals (A ++ [(p, r)])) row0 (val row') →
        Clean (reduced row' E) ∧ Red (vals (A ++ (p, r) :: E)) row0 (val (reduced row' E)) := fun row' h1 h2 => by
      have := reduced_aux E (A ++ [(p, r)]) row0 row' (by simpa using hE) (by simpa using hc) h1 h2
      simpa using this
    by_cases hh : has row p = true
    · rw [if_pos hh]
      have hrow : get row p ≠ 0 := hr.get_ne.2 ((has_iff row p).1 hh)
      obtain ⟨c1, c2, k, l, hk, e⟩ := cleared_spec hr hcr p hrow hrp
      exact fin _ c1 (ea ▸ h.step hz hk _ e (val_zero.2 c2))
    · rw [if_neg hh]
      have hrow : get row p = 0 := Classical.byContradiction (fun hn => hh ((has_iff row p).2 (hr.get_ne.1 hn)))
      refine fin _ hr (ea ▸ h.step (k := 1) (l := 0) hz (by decide) _ (fun i => by grind) (val_zero.2 hrow))

theorem red_nil (v : Vec Nat) : Red [] v v :=
  ⟨⟨1, _, by decide, .zero, fun i => by grind⟩, by simp⟩

/-- What comes out by an echelon: 0 just for what hangs on its rows. -/
theorem reduced_spec {E : List (Nat × Row)} {row : Row} (hE : Ech (vals E)) (hc : ∀ q, q ∈ E → Clean q.2) (hr : Clean row) :
    Clean (reduced row E) ∧ Red (vals E) (val row) (val (reduced row E)) :=
  reduced_aux E [] (val row) row hE hc hr (red_nil _)

/-- The least index below the width, as it is sought. -/
def leastFrom (r : Row) : Nat → Nat → Option Nat
  | _, 0 => none
  | at', m + 1 => if has r at' then some at' else leastFrom r (at' + 1) m

def leastIndex (r : Row) (width : Nat) : Option Nat := leastFrom r 0 width

theorem leastFrom_spec (r : Row) : ∀ (m a : Nat),
    (leastFrom r a m = none → ∀ i, a ≤ i → i < a + m → has r i = false) ∧
    (∀ p, leastFrom r a m = some p → a ≤ p ∧ p < a + m ∧ has r p = true ∧ ∀ i, a ≤ i → i < p → has r i = false)
  | 0, a => ⟨fun _ i h1 h2 => by omega, fun p h => by simp [leastFrom] at h⟩
  | m + 1, a => by
    have ih := leastFrom_spec r m (a + 1)
    simp only [leastFrom]
    by_cases h : has r a = true
    · simp only [if_pos h]
      refine ⟨fun h' => by simp at h', fun p hp => ?_⟩
      simp at hp; subst hp
      exact ⟨Nat.le_refl _, by omega, h, fun i h1 h2 => by omega⟩
    · simp only [if_neg h]
      refine ⟨fun h' i h1 h2 => ?_, fun p hp => ?_⟩
      · by_cases e : i = a
        · subst e; simpa using h
        · exact ih.1 h' i (by omega) (by omega)
      · obtain ⟨h1, h2, h3, h4⟩ := ih.2 p hp
        refine ⟨by omega, by omega, h3, fun i h5 h6 => ?_⟩
        by_cases e : i = a
        · subst e; simpa using h
        · exact h4 i (by omega) h6

/-- The row of a list of integers. -/
def sparseFrom : Nat → List Int → Row
  | _, [] => []
  | i, v :: vs => if v ≠ 0 then (i, v) :: sparseFrom (i + 1) vs else sparseFrom (i + 1) vs

def sparse (vs : List Int) : Row := sparseFrom 0 vs

theorem sparseFrom_keys : ∀ (vs : List Int) (i k : Nat), k ∈ keys (sparseFrom i vs) → i ≤ k ∧ k < i + vs.length
  | [], i, k, h => by simp [sparseFrom, keys] at h
  | v :: vs, i, k, h => by
    simp only [sparseFrom] at h
    by_cases hv : v ≠ 0
    · rw [if_pos hv] at h
      simp only [keys, List.map_cons, List.mem_cons] at h
      rcases h with h | h
      · simp; omega
      · have := sparseFrom_keys vs (i + 1) k h; simp; omega
    · rw [if_neg hv] at h
      have := sparseFrom_keys vs (i + 1) k h; simp; omega

theorem sparseFrom_clean : ∀ (vs : List Int) (i : Nat), Clean (sparseFrom i vs)
  | [], i => ⟨by simp [sparseFrom, keys], by simp [sparseFrom]⟩
  | v :: vs, i => by
    have ih := sparseFrom_clean vs (i + 1)
    simp only [sparseFrom]
    by_cases hv : v ≠ 0
    · rw [if_pos hv]
      refine ⟨?_, fun p hp => ?_⟩
      · have : i ∉ keys (sparseFrom (i + 1) vs) := fun h => by
          have := sparseFrom_keys vs (i + 1) i h; omega
        simpa [keys] using And.intro this ih.nodup
      · rcases List.mem_cons.1 hp with e | e
        · subst e; exact hv
        · exact ih.nz p e
    · rw [if_neg hv]; exact ih

theorem sparseFrom_get : ∀ (vs : List Int) (i j : Nat), get (sparseFrom i vs) (i + j) = (vs[j]?).getD 0
  | [], i, j => by simp [sparseFrom, get]
  | v :: vs, i, 0 => by
    simp only [sparseFrom]
    by_cases hv : v ≠ 0
    · rw [if_pos hv]; simp [get]
    · rw [if_neg hv]
      have : i ∉ keys (sparseFrom (i + 1) vs) := fun h => by
        have := sparseFrom_keys vs (i + 1) i h; omega
      show get (sparseFrom (i + 1) vs) i = _
      rw [get_of_not_mem _ _ this]
      have : v = 0 := Classical.byContradiction hv
      simp [this]
  | v :: vs, i, j + 1 => by
    have ih := sparseFrom_get vs (i + 1) j
    simp only [sparseFrom]
    have e : i + 1 + j = i + (j + 1) := by omega
    rw [e] at ih
    by_cases hv : v ≠ 0
    · rw [if_pos hv]
      simp only [get]
      rw [if_neg (by omega), ih]; simp
    · rw [if_neg hv, ih]; simp

theorem sparse_get (vs : List Int) (j : Nat) : get (sparse vs) j = (vs[j]?).getD 0 := by
  have := sparseFrom_get vs 0 j
  rwa [Nat.zero_add] at this

end L2.Halves
end S_HalvesRows
section S_G1
set_option maxRecDepth 100000
set_option maxHeartbeats 4000000
namespace L2.EH
open PySem PySem.Spec PyProof.Rows
open L2.Halves (has keys Clean leastFrom leastIndex sparseFrom put)
theorem same_tup {K : PySem.W.Frag} {H H' : Hp} {a : Addr} {xs : List V} (e : Same H H') (h : SqT K H a xs) : SqT K H' a xs := by
  rcases h with (h | ⟨o, h⟩) | h
  · exact .inl (.inl (e _ _ h))
  · exact .inl (.inr ⟨o, e _ _ h⟩)
  · exact .inr h
mutual
theorem dp_same {K : PySem.W.Frag} {H H' : Hp} (s : Same H H') : ∀ {v : V} {d : PyData}, Dp K H v d → Dp K H' v d
  | _, _, .non => .non
  | _, _, .bl b => .bl b
  | _, _, .int i => .int i
  | _, _, .str x => .str x
  | _, _, .lst h r => .lst (s.seq h) (dpAll_same s r)
  | _, _, .tup h r => .tup (same_tup s h) (dpAll_same s r)
theorem dpAll_same {K : PySem.W.Frag} {H H' : Hp} (s : Same H H') : ∀ {vs : List V} {ds : List PyData}, DpAll K H vs ds → DpAll K H' vs ds
  | _, _, .nil => .nil
  | _, _, .cons h r => .cons (dp_same s h) (dpAll_same s r)
end
theorem same_new {H : Hp} {p : Addr} {o : HO} (h : H p = none) : Same H (upd H p o) := fun b q e => by
  rw [upd_ne (by intro z; rw [z, h] at e; cases e)]; exact e
/-- a row as it stands in the heap -/
def rowK (r : Halves.Row) : List (Key × V) := r.map (fun p => (Sum.inl (p.1 : Int), V.int p.2))
theorem has_cons (k : Nat) (v : Int) (r : Halves.Row) (i : Nat) : has ((k, v) :: r) i = (k == i || has r i) := rfl
theorem get_cons (k : Nat) (v : Int) (r : Halves.Row) (i : Nat) : Halves.get ((k, v) :: r) i = if k = i then v else Halves.get r i := rfl
theorem rowK_cons (k : Nat) (v : Int) (r : Halves.Row) : rowK ((k, v) :: r) = (Sum.inl (k : Int), V.int v) :: rowK r := rfl
theorem valV_cons (k : Key) (v : V) (l : List (Key × V)) (x : Key) : valV ((k, v) :: l) x = if k = x then some v else valV l x := by
  unfold valV
  by_cases e : k = x
  · simp [e]
  · simp [e]
theorem valV_rowK : ∀ (r : Halves.Row) (i : Nat), valV (rowK r) (Sum.inl (i : Int)) = if has r i = true then some (.int (Halves.get r i)) else none
  | [], i => rfl
  | (k, v) :: r, i => by
    rw [rowK_cons, valV_cons, has_cons, get_cons, valV_rowK r i]
    by_cases e : k = i
    · subst e; simp
    · have e1 : ¬ (Sum.inl (k : Int) : Key) = Sum.inl (i : Int) := fun h => e (by injection h with h; omega)
      have e3 : (k == i) = false := by simpa using e
      rw [if_neg e1, if_neg e, e3, Bool.false_or]
theorem sparseFrom_snoc : ∀ (xs : List Int) (i : Nat) (v : Int), sparseFrom i (xs ++ [v]) = sparseFrom i xs ++ (if v ≠ 0 then [(i + xs.length, v)] else [])
  | [], i, v => by simp [sparseFrom]
  | x :: xs, i, v => by
    have ih := sparseFrom_snoc xs (i + 1) v
    simp only [List.cons_append, sparseFrom, ih, List.length_cons]
    have e : i + 1 + xs.length = i + (xs.length + 1) := by omega
    rw [e]
    by_cases hx : x ≠ 0 <;> simp [hx]
theorem rowK_append (a b : Halves.Row) : rowK (a ++ b) = rowK a ++ rowK b := by simp [rowK]
theorem rowK_length (r : Halves.Row) : (rowK r).length = r.length := by simp [rowK]
theorem valV_none_of {r : Halves.Row} {i : Nat} (h : i ∉ keys r) : valV (rowK r) (Sum.inl (i : Int)) = none := by
  rw [valV_rowK, if_neg (fun hh => h ((Halves.has_iff r i).1 hh))]
theorem putK_new {r : Halves.Row} {i : Nat} (h : i ∉ keys r) (v : Int) : putK (rowK r) (Sum.inl (i : Int)) (V.int v) = rowK (r ++ [(i, v)]) := by
  unfold putK
  rw [valV_any, valV_none_of h]
  rw [if_neg (by simp), rowK_append]; rfl
theorem sparseFrom_length : ∀ (xs : List Int) (i : Nat), (sparseFrom i xs).length ≤ xs.length
  | [], i => by simp [sparseFrom]
  | x :: xs, i => by
    have := sparseFrom_length xs (i + 1)
    simp only [sparseFrom]
    split <;> simp <;> omega
theorem for_keys {d : Addr} {o : Obj} {kvs : List (Key × V)} {g : TG} {tb : TS} {D : Ends} {σ : St} {H : Hp} (Pv : Nat → St → Hp → Prop) (h0 : Pv 0 σ H)
    (hl : ∀ i σ H, i ≤ kvs.length → Pv i σ H → H d = some (.frz o (.dK kvs)))
    (hs : ∀ i k v σ H, kvs[i]? = some (k, v) → Pv i σ H → g (kV k) σ H fun σ2 H2 => tb { D with nx := Pv (i + 1), ct := Pv (i + 1), bk := D.nx } σ2 H2)
    (hd : ∀ σ H, Pv kvs.length σ H → D.nx σ H) :
    ∃ W : Nat → Nat → St → Hp → Prop, (∃ m, W 0 m σ H) ∧ ∀ i m σ H, W i m σ H →
      ((Itk d o kvs).stop i H ∧ D.nx σ H) ∨ ((Itk d o kvs).go i H ∧ ∃ N : St → Hp → Prop, (∀ σ' H', N σ' H' → ∃ m', m' < m ∧ W (i + 1) m' σ' H') ∧ ∀ x H', (Itk d o kvs).yld i H x H' → g x σ H' fun σ2 H2 => tb { D with nx := N, ct := N, bk := D.nx } σ2 H2) := by
  refine ⟨fun i m σ H => m = kvs.length - i ∧ i ≤ kvs.length ∧ Pv i σ H, ⟨kvs.length, rfl, Nat.zero_le _, h0⟩, ?_⟩
  rintro i m σ H ⟨rfl, hi, p⟩
  have q := hl i σ H hi p
  by_cases hlt : i < kvs.length
  · refine .inr ⟨⟨q, hlt⟩, Pv (i + 1), fun σ' H' p' => ⟨kvs.length - (i + 1), by omega, rfl, hlt, p'⟩, fun x H' y => ?_⟩
    obtain ⟨rfl, k, v, e, rfl⟩ := y
    exact hs i k v σ _ e p
  · have e : i = kvs.length := by omega
    subst e
    exact .inl ⟨⟨q, Nat.le_refl _⟩, hd σ H p⟩
theorem rowK_get (r : Halves.Row) (i : Nat) (k : Key) (v : V) (h : (rowK r)[i]? = some (k, v)) : ∃ p, r[i]? = some p ∧ k = Sum.inl (p.1 : Int) ∧ v = V.int p.2 := by
  simp only [rowK, List.getElem?_map] at h
  cases hr : r[i]? with
  | none => rw [hr] at h; simp at h
  | some p => rw [hr] at h; simp at h; exact ⟨p, rfl, h.1.symm, h.2.symm⟩
theorem mapK_other (v : Int) (k : Nat) : ∀ l : Halves.Row, k ∉ keys l → (rowK l).map (fun kv => if kv.1 = Sum.inl (k : Int) then (kv.1, V.int v) else kv) = rowK l
  | [], _ => rfl
  | (k', x') :: l, h => by
    have h' : ¬ k = k' ∧ k ∉ keys l := by simpa [keys] using h
    rw [rowK_cons]
    simp only [List.map_cons]
    rw [mapK_other v k l h'.2, if_neg (fun e => h'.1 (by injection e with e; omega))]
theorem mapK_put (v : Int) (i : Nat) : ∀ r : Halves.Row, (keys r).Nodup → i ∈ keys r → (rowK r).map (fun kv => if kv.1 = Sum.inl (i : Int) then (kv.1, V.int v) else kv) = rowK (put r i v)
  | [], _, h => by simp [keys] at h
  | (k, x) :: r, hn, hi => by
    have hn' : k ∉ keys r ∧ (keys r).Nodup := by simpa [keys] using hn
    rw [rowK_cons]
    simp only [List.map_cons, put]
    by_cases e : k = i
    · subst e
      rw [if_pos rfl, if_pos rfl, rowK_cons, mapK_other v k r hn'.1]
    · have e1 : ¬ (Sum.inl (k : Int) : Key) = Sum.inl (i : Int) := fun h => e (by injection h with h; omega)
      have hi' : i ∈ keys r := by
        simp only [keys, List.map_cons, List.mem_cons] at hi
        rcases hi with h | h
        · exact absurd h.symm e
        · exact h
      rw [if_neg e1, if_neg e, rowK_cons, mapK_put v i r hn'.2 hi']
theorem putK_old {r : Halves.Row} {i : Nat} (v : Int) (hn : (keys r).Nodup) (hi : i ∈ keys r) : putK (rowK r) (Sum.inl (i : Int)) (V.int v) = rowK (put r i v) := by
  unfold putK
  rw [valV_any, valV_rowK, if_pos ((Halves.has_iff r i).2 hi), if_pos (show (some (V.int (Halves.get r i))).isSome = true from rfl), mapK_put v i r hn hi]
theorem putK_row {r : Halves.Row} {i : Nat} (v : Int) (hn : (keys r).Nodup) : putK (rowK r) (Sum.inl (i : Int)) (V.int v) = rowK (put r i v) := by
  by_cases hi : i ∈ keys r
  · exact putK_old v hn hi
  · rw [putK_new hi]
    congr 1
    clear hn
    induction r with
    | nil => rfl
    | cons q r ih =>
      obtain ⟨k, x⟩ := q
      have h' : ¬ i = k ∧ i ∉ keys r := by simpa [keys] using hi
      simp only [List.cons_append, put]
      rw [if_neg (fun e => h'.1 e.symm), ih h'.2]
theorem put_length : ∀ (r : Halves.Row) (i : Nat) (v : Int), (put r i v).length ≤ r.length + 1
  | [], _, _ => by simp [put]
  | (k, x) :: r, i, v => by
    have := put_length r i v
    simp only [put]
    split <;> simp <;> omega
theorem get_lt {r : Halves.Row} {n : Nat} (h : ∀ p, p ∈ r → p.2.natAbs < 2 ^ n) (hn : (keys r).Nodup) (i : Nat) : (Halves.get r i).natAbs < 2 ^ n := by
  by_cases hi : i ∈ keys r
  · obtain ⟨p, hp, rfl⟩ := List.mem_map.1 hi
    rw [Halves.get_of_mem r p hn hp]; exact h p hp
  · rw [Halves.get_of_not_mem r i hi]; exact Nat.pow_pos (by decide)
theorem getD_row (r : Halves.Row) (i : Nat) : (valV (rowK r) (Sum.inl (i : Int))).getD (V.int 0) = V.int (Halves.get r i) := by
  rw [valV_rowK]
  by_cases h : has r i = true
  · rw [if_pos h]; rfl
  · rw [if_neg h, Halves.get_of_not_mem r i (fun hm => h ((Halves.has_iff r i).2 hm))]; rfl
theorem take_snoc (r : Halves.Row) (i : Nat) (q : Nat × Int) (h : r[i]? = some q) : r.take (i + 1) = r.take i ++ [q] := by
  obtain ⟨hi, e⟩ := List.getElem?_eq_some_iff.1 h
  rw [List.take_succ_eq_append_getElem hi, e]
theorem take_new (r : Halves.Row) (i : Nat) (q : Nat × Int) (h : r[i]? = some q) (hn : (keys r).Nodup) : q.1 ∉ keys (r.take i) := by
  intro hm
  obtain ⟨hi, e⟩ := List.getElem?_eq_some_iff.1 h
  obtain ⟨q', hq2, eq⟩ := List.mem_map.1 hm
  obtain ⟨j, hj, ej⟩ := List.getElem_of_mem hq2
  have hji : j < i := by simp at hj; omega
  have hjr : j < r.length := by omega
  have e1 : r[j] = q' := by rw [← ej]; simp
  have hk : (keys r)[j]'(by simpa [keys] using hjr) = (keys r)[i]'(by simpa [keys] using hi) := by
    simp only [keys, List.getElem_map, e1, e]; exact eq
  have := (List.getElem_inj hn).1 hk
  omega
def tLockO (t : TS) : TS := fun D σ H => tLock t D σ H ∨ t D σ H
theorem ps_lockO {X : Cx} {st : Stmt} {t : TS} (h : PS X st t) : PS X st (tLockO t) :=
  ⟨fun pins s σ H D I hw => hw.elim (fun q => (ps_lock h).run pins s σ H D I q) (fun q => h.run pins s σ H D I q)⟩
theorem upd_self {H : Hp} {a : Addr} {o : HO} (h : H a = some o) : upd H a o = H := by
  funext b
  by_cases e : b = a
  · subst e; rw [upd_same, h]
  · rw [upd_ne e]
theorem upd_swap {H : Hp} {a b : Addr} {o q : HO} (h : a ≠ b) : upd (upd H a o) b q = upd (upd H b q) a o := by
  funext c
  by_cases e : c = a
  · subst e; rw [upd_ne h, upd_same, upd_same]
  · by_cases e2 : c = b
    · subst e2; rw [upd_same, upd_ne e, upd_same]
    · rw [upd_ne e2, upd_ne e, upd_ne e, upd_ne e2]
/-- a list of rows -/
def RowsAt (K : PySem.W.Frag) (H : Hp) (a : Addr) (M : List Halves.Row) : Prop := ∃ xs : List Addr, SqL K H a (xs.map V.ref) ∧ xs.length = M.length ∧ ∀ i (h : i < xs.length) (h' : i < M.length), H xs[i] = some (.dK (rowK M[i]))
theorem RowsAt.same {K : PySem.W.Frag} {H H' : Hp} {a : Addr} {M : List Halves.Row} (h : RowsAt K H a M) (s : Same H H') : RowsAt K H' a M := by
  obtain ⟨xs, h1, h2, h3⟩ := h
  exact ⟨xs, s.seq h1, h2, fun i p q => s _ _ (h3 i p q)⟩
/-- a def that is called: its promise, its binding, its name -/
structure Fn' (P : Program) (w : World) (K : PySem.W.Frag) (mg : Str → Option Value) (base : Heap) (k : Nat) (x : Str) (f : Addr) (fd : FuncData) (ps : List Str) (sp : Sp) : Prop where
  ok : FnOk P w K mg base CX0 k f fd ps sp
  b : Binds K fd ps []
  m : mg x = some (.ref f)
  k : PySem.W.keepIn K (.ref f) = true
theorem lc_out {J : It} {n : Nat} {G : Hp → Prop} {Y : Nat → Hp → V → Hp → Prop} (w : Walk J n G Y) {body : V → Hp → (Hp → Prop) → Prop} {H0 : Hp} {Qd : Hp → Prop} (Pv : Nat → Hp → Prop) (h0 : Pv 0 H0) (hG : ∀ i H, i ≤ n → Pv i H → G H)
    (hs : ∀ i x H H', i < n → Pv i H → Y i H x H' → body x H' (Pv (i + 1))) (hd : ∀ H, Pv n H → Qd H) :
    ∃ W : Nat → Nat → Hp → Prop, (∃ m, W 0 m H0) ∧ ∀ i m H, W i m H →
      (J.stop i H ∧ Qd H) ∨ (J.go i H ∧ ∃ Nx : Hp → Prop, (∀ H', Nx H' → ∃ m', m' < m ∧ W (i + 1) m' H') ∧ ∀ x H', J.yld i H x H' → body x H' Nx) := by
  refine ⟨fun i m H => m = n - i ∧ i ≤ n ∧ Pv i H, ⟨n, by simp, Nat.zero_le _, h0⟩, ?_⟩
  rintro i m H ⟨rfl, hi, p⟩
  have q := hG i H hi p
  by_cases hlt : i < n
  · exact .inr ⟨w.goes i H hlt q, Pv (i + 1), fun H' p' => ⟨n - (i + 1), by omega, rfl, hlt, p'⟩, fun x H' y => hs i x H H' hlt p (w.yields i H x H' hlt q y)⟩
  · have e : i = n := by omega
    subst e
    exact .inl ⟨w.stops H q, hd H p⟩
theorem dpAll_snoc {K : PySem.W.Frag} {H : Hp} {v : V} {d : PyData} (hv : Dp K H v d) : ∀ {vs : List V} {ds : List PyData}, DpAll K H vs ds → DpAll K H (vs ++ [v]) (ds ++ [d])
  | _, _, .nil => .cons hv .nil
  | _, _, .cons h r => .cons h (dpAll_snoc hv r)
def pairD (p : Int × Int) : PyData := .tuple [.int p.1, .int p.2]
theorem pair_dp {K : PySem.W.Frag} {H : Hp} {t : Addr} {p : Int × Int} (h : SqT K H t [.int p.1, .int p.2]) : Dp K H (.ref t) (pairD p) := .tup h (.cons (.int _) (.cons (.int _) .nil))
theorem row_dget {H : Hp} {a : Addr} {r : Halves.Row} {i : Nat} (ha : H a = some (.dK (rowK r))) (h : has r i = true) : DGet H a (.int (i : Int)) (some (.int (Halves.get r i))) :=
  .inl ⟨_, Sum.inl (i : Int), .inl ha, rfl, by rw [valV_rowK, if_pos h]⟩

mutual
def tupOnly : PyData → Bool
  | .list _ => false
  | .tuple ds => tupsOnly ds
  | _ => true
def tupsOnly : List PyData → Bool
  | [] => true
  | d :: ds => tupOnly d && tupsOnly ds
end
/-! ### tuples are never written -/
def isT : HO → Bool
  | .tup _ => true
  | .frz _ (.tup _) => true
  | _ => false
def KeepT (H H' : Hp) : Prop := ∀ b o, H b = some o → isT o = true → H' b = some o
theorem KeepT.refl (H : Hp) : KeepT H H := fun _ _ h _ => h
theorem KeepT.trans {H H1 H2 : Hp} (a : KeepT H H1) (b : KeepT H1 H2) : KeepT H H2 := fun c o h d => b c o (a c o h d) d
theorem keepT_same {H H' : Hp} (s : Same H H') : KeepT H H' := fun b o h _ => s b o h
theorem keepT_upd {H : Hp} {b : Addr} {q o : HO} (h : H b = some q) (hq : isT q = false) : KeepT H (upd H b o) := fun c r hc hd => by
  rw [upd_ne (by intro e; rw [e, h] at hc; cases hc; rw [hq] at hd; cases hd)]; exact hc
theorem tup_keepT {K : PySem.W.Frag} {H H' : Hp} {a : Addr} {xs : List V} (k : KeepT H H') (h : SqT K H a xs) : SqT K H' a xs := by
  rcases h with (h | ⟨o, h⟩) | h
  · exact .inl (.inl (k _ _ h rfl))
  · exact .inl (.inr ⟨o, k _ _ h rfl⟩)
  · exact .inr h
mutual
theorem dp_keep {K : PySem.W.Frag} {H H' : Hp} (k : KeepT H H') : ∀ {v : V} {d : PyData}, tupOnly d = true → Dp K H v d → Dp K H' v d
  | _, _, _, .non => .non
  | _, _, _, .bl b => .bl b
  | _, _, _, .int i => .int i
  | _, _, _, .str x => .str x
  | _, _, e, .lst h r => by simp [tupOnly] at e
  | _, _, e, .tup h r => .tup (tup_keepT k h) (dpAll_keep k (by simpa [tupOnly] using e) r)
theorem dpAll_keep {K : PySem.W.Frag} {H H' : Hp} (k : KeepT H H') : ∀ {vs : List V} {ds : List PyData}, tupsOnly ds = true → DpAll K H vs ds → DpAll K H' vs ds
  | _, _, _, .nil => .nil
  | _, _, e, .cons h r => .cons (dp_keep k (by simp [tupsOnly] at e; exact e.1) h) (dpAll_keep k (by simp [tupsOnly] at e; exact e.2) r)
end
theorem tupsOnly_map {α : Type} (f : α → PyData) (h : ∀ x, tupOnly (f x) = true) : ∀ xs : List α, tupsOnly (xs.map f) = true
  | [] => rfl
  | x :: xs => by simp [tupsOnly, h x, tupsOnly_map f h xs]
theorem pairD_tup (p : Int × Int) : tupOnly (pairD p) = true := rfl
/-! ### data of tuples: rows of ints, rows of pairs -/
def rowD (r : List Int) : PyData := .tuple (r.map .int)
def prowD (ps : List (Int × Int)) : PyData := .tuple (ps.map pairD)
def tupD {α : Type} (f : α → PyData) (xs : List α) : PyData := .tuple (xs.map f)
theorem rowD_tup (r : List Int) : tupOnly (rowD r) = true := by
  show tupsOnly _ = true
  exact tupsOnly_map PyData.int (fun _ => rfl) r
theorem tupD_tup {α : Type} {f : α → PyData} (h : ∀ x, tupOnly (f x) = true) (xs : List α) : tupOnly (tupD f xs) = true := tupsOnly_map f h xs
theorem prowD_tup (r : List (Int × Int)) : tupOnly (prowD r) = true := tupsOnly_map pairD pairD_tup r
section
variable {K : PySem.W.Frag} {H : Hp}
theorem dpAll_len : ∀ {vs : List V} {ds : List PyData}, DpAll K H vs ds → vs.length = ds.length
  | _, _, .nil => rfl
  | _, _, .cons _ r => by simp [dpAll_len r]
theorem dpAll_get : ∀ {vs : List V} {ds : List PyData}, DpAll K H vs ds → ∀ {i : Nat} {d : PyData}, ds[i]? = some d → ∃ v, vs[i]? = some v ∧ Dp K H v d
  | _, _, .cons h r, 0, d, e => ⟨_, rfl, by cases e; exact h⟩
  | _, _, .cons h r, i + 1, d, e => by
    obtain ⟨v, e1, e2⟩ := dpAll_get r (i := i) (d := d) (by simpa using e)
    exact ⟨v, by simpa using e1, e2⟩
theorem dpAll_get' : ∀ {vs : List V} {ds : List PyData}, DpAll K H vs ds → ∀ {i : Nat} {v : V}, vs[i]? = some v → ∃ d, ds[i]? = some d ∧ Dp K H v d
  | _, _, .cons h r, 0, d, e => ⟨_, rfl, by cases e; exact h⟩
  | _, _, .cons h r, i + 1, d, e => by
    obtain ⟨v, e1, e2⟩ := dpAll_get' r (i := i) (v := d) (by simpa using e)
    exact ⟨v, by simpa using e1, e2⟩
theorem dp_int {v : V} {i : Int} (h : Dp K H v (.int i)) : v = .int i := by cases h; rfl
theorem dpAll_ints : ∀ {vs : List V} {ns : List Int}, DpAll K H vs (ns.map .int) → vs = ns.map V.int
  | _, [], .nil => rfl
  | _, n :: ns, .cons h r => by rw [dp_int h, dpAll_ints r]; rfl
theorem ints_dpAll : ∀ ns : List Int, DpAll K H (ns.map V.int) (ns.map .int)
  | [] => .nil
  | n :: ns => .cons (.int n) (ints_dpAll ns)
theorem dp_tup {v : V} {ds : List PyData} (h : Dp K H v (.tuple ds)) : ∃ a xs, v = .ref a ∧ SqT K H a xs ∧ DpAll K H xs ds := by
  cases h with
  | tup h r => exact ⟨_, _, rfl, h, r⟩
theorem dp_row {v : V} {r : List Int} (h : Dp K H v (rowD r)) : ∃ a, v = .ref a ∧ SqT K H a (r.map V.int) := by
  obtain ⟨a, xs, e, h1, h2⟩ := dp_tup h
  rw [dpAll_ints h2] at h1
  exact ⟨a, e, h1⟩
theorem row_dp {a : Addr} {r : List Int} (h : SqT K H a (r.map V.int)) : Dp K H (.ref a) (rowD r) := .tup h (ints_dpAll r)
theorem dp_pair {v : V} {p : Int × Int} (h : Dp K H v (pairD p)) : ∃ a, v = .ref a ∧ SqT K H a [.int p.1, .int p.2] := by
  obtain ⟨a, xs, e, h1, h2⟩ := dp_tup h
  cases h2 with
  | cons x r => cases r with
    | cons y r => cases r with
      | nil => rw [dp_int x, dp_int y] at h1; exact ⟨a, e, h1⟩
end
/-- Python's type of a tuple that is read -/
theorem sqT_ty {K : PySem.W.Frag} {H : Hp} {a : Addr} {xs : List V} (h : SqT K H a xs) : TyX K H (.ref a) (.type "tuple") := by
  rcases h with (h | ⟨o, h⟩) | ⟨o, its, n, h1, h2, _⟩
  · exact .base (.tup h)
  · exact .fTuple h
  · exact .kTuple h1 h2
end L2.EH
end S_G1
section S_S1
set_option maxRecDepth 100000
set_option maxHeartbeats 4000000
namespace L2.EH
open PySem PySem.Spec PyProof.Rows
def tp (i : Nat) : Stmt := PySem.Challenge.pw_halverules_k66_whole_accepted_claims_are.main.body.getD i (.Pass ⟨0, 0, 0, 0⟩)
abbrev sRuleInit : Stmt := inClass (tp 8) 0
abbrev sIsWhole : Stmt := tp 9
abbrev sIsRowOf : Stmt := tp 10
abbrev sIsFraction : Stmt := tp 11
abbrev sIsFractionRow : Stmt := tp 12
abbrev sIsBetween : Stmt := tp 13
abbrev sIsSquare : Stmt := tp 14
abbrev sPlainIn : Stmt := tp 15
abbrev sSharedRow : Stmt := tp 16
abbrev sRowTimes : Stmt := tp 17
abbrev sHalfValues : Stmt := tp 18
abbrev sLowestTerms : Stmt := tp 19
abbrev sValuesAtAll : Stmt := tp 20
abbrev sFirstValues : Stmt := tp 21
abbrev sToldValue : Stmt := tp 22
abbrev sAddsUp : Stmt := tp 23
abbrev sIsClosed : Stmt := tp 25
abbrev sMadeRow : Stmt := tp 26
abbrev sMatrixOf : Stmt := tp 27
abbrev sAreRows : Stmt := tp 28
abbrev sSumProd : Stmt := tp 29
abbrev sValuesInSpan : Stmt := tp 32
abbrev sIsWritten : Stmt := tp 33
abbrev sAreAscending : Stmt := tp 34
abbrev sIsRowFor : Stmt := tp 35
abbrev sAskedNumbers : Stmt := tp 36
abbrev sIsRight : Stmt := tp 37
abbrev sIsSame : Stmt := tp 39
abbrev sIsApart : Stmt := tp 40
abbrev sIsParting : Stmt := tp 41
abbrev sIsRelation : Stmt := tp 42
abbrev sIsRests : Stmt := tp 43
abbrev sIsTold : Stmt := tp 44
abbrev sAccepts : Stmt := tp 47
abbrev sRulesIn : Stmt := tp 48
abbrev sAreApart : Stmt := tp 49
abbrev sAddUpAt : Stmt := tp 50
abbrev sAddUpInSpan : Stmt := tp 51
abbrev sCell : Stmt := tp 53
abbrev sSource : Stmt := tp 54
abbrev sDraw : Stmt := tp 55
abbrev sImage : Stmt := tp 56
abbrev sDigits : Stmt := tp 57
abbrev sLines : Stmt := tp 58
abbrev sAt : Stmt := tp 59
abbrev sNumber : Stmt := tp 60
abbrev sRow : Stmt := tp 61
abbrev sRule : Stmt := tp 62
abbrev sPlain : Stmt := tp 63
abbrev sJoint : Stmt := tp 64
abbrev sDivisor : Stmt := tp 65
abbrev sThin : Stmt := tp 66
abbrev sFraction : Stmt := tp 67
abbrev sCleared : Stmt := tp 68
abbrev sFactors : Stmt := tp 69
abbrev sKept : Stmt := tp 70
abbrev sSmall : Stmt := tp 71
abbrev sDrawnRow : Stmt := tp 72
abbrev sPaper : Stmt := tp 73
abbrev sMakes : Stmt := tp 74
abbrev sIsSpan : Stmt := tp 75
abbrev sSums : Stmt := tp 76
abbrev sSpanRight : Stmt := tp 77
abbrev sPartingRight : Stmt := tp 78
abbrev sRight : Stmt := tp 79
abbrev sLaw : Stmt := tp 80
end L2.EH
end S_S1
section S_Z8
set_option maxRecDepth 100000
set_option maxHeartbeats 4000000
namespace L2.EH
open PySem PySem.Spec PyProof.Rows
/-! ### promises that know of the guards (repr asks for them) -/
structure FnG (P : Program) (w : World) (K : PySem.W.Frag) (mg : Str → Option Value) (base : Heap) (CX : CXT) (k : Nat) (f : Addr) (fd : FuncData) (ps : List Str) (sp : Sp) : Prop where
  len : ∀ vs H Q E, sp vs H Q E → vs.length = ps.length
  run : ∀ (A : Around) (outer : List Env) (s : Shared) (H : Hp) (args : Args) (us : List Value) (vs : List V) (Q : VK) (E : XK), Room k A → A.guards = some [] → Env0 P w K mg base A outer s H → BindsTo s fd args (ps.zip us) → Vals vs us → sp vs H Q E →
    codeAny (model P w) A (.call (.ref f) args) (CR CX outer P w H s Q E) s

theorem fn_ofG {CX : CXT} {P : Program} {w : World} {K : PySem.W.Frag} {mg : Str → Option Value} {base : Heap} {k : Nat} {f : Addr} {nm qual : Str} {pa : Arguments} {bd : List Stmt} {sc : Scope} {dV kV doc pm cdv ct oc : Value} {an od : Option Addr}
    {osl : Array (Option Value)} {N ps : List Str} {sp : Sp} (lk : K.lookup f = some ⟨oc, od, .func (PySem.W.fnOf nm qual pa bd sc dV kV doc pm an cdv ct), osl⟩) (hcd : PySem.W.codeIn K cdv qual = true) (S : FnScope N ps sc)
    (len : ∀ vs H Q E, sp vs H Q E → vs.length = ps.length)
    (go : ∀ (A : Around) (outer : List Env) (s : Shared) (H : Hp) (vs : List V) (Q : VK) (E : XK), Room k (A.deeper (envOfC qual sc s.heap.objs.size f cdv)) → (A.deeper (envOfC qual sc s.heap.objs.size f cdv)).guards = some [] → sp vs H Q E →
      ∃ t, PSs (cxOf CX P w K mg base N qual sc f cdv A outer s H E) bd t ∧ t { nx := fun _ H' => Q .non H', rt := Q } (start N vs) H) :
    FnG P w K mg base CX (k + 1) f (PySem.W.fnOf nm qual pa bd sc dV kV doc pm an cdv ct) ps sp where
  len := len
  run := fun A outer s H args us vs Q E room gd e0 binds rel want => by
    have there : ∀ b o, base.get? b = some o → s.heap.get? b = some o := fun b o e => (e0.bs b o e).1
    have par : ((ps.zip us).all fun y => sc.names.lookup y.1 == some .local || sc.names.lookup y.1 == some .cell) = true := List.all_eq_true.mpr fun y hy => by
      rcases S.par y.1 (List.of_mem_zip (a := y.1) (b := y.2) hy).1 with q | q <;> simp [q]
    obtain ⟨t, ht, hq⟩ := go A outer s H vs Q E (room.deeper _) gd want
    refine Att.call_fn (e0.mod.kin.keeps there) (e0.mod.nolimit.keeps there) lk hcd room.depth binds par (fun s1 x => ?_) S.co S.gen S.kind
    refine wpAny_mono (ht.run [] s1 (start N vs) H _ (inv_start S room.hd e0 (len _ _ _ _ want) rel x) hq) (fun fl s' got => ?_) fun _ _ z => z
    match fl, got with
    | .ret _, ⟨v, _, H', J, rv, q⟩ => exact ⟨v, H', J.os, J.bare, J.base, J.hok, rv, q⟩
    | .next, ⟨_, H', J, q⟩ => exact ⟨.non, H', J.os, J.bare, J.base, J.hok, rfl, q⟩
    | .brk, ⟨_, _, _, q⟩ => exact q.elim
    | .cont, ⟨_, _, _, q⟩ => exact q.elim
section
variable {P : Program} {w : World} {K : PySem.W.Frag} {mg : Str → Option Value} {base : Heap}
theorem Fun.okG {x qual : Str} {st : Stmt} {f : Addr} {fd : FuncData} {N ps : List Str} {k : Nat} {sp : Sp} (F : Fun K x qual st f fd) (S : FnScope N ps (defScope st)) (len : ∀ vs H Q E, sp vs H Q E → vs.length = ps.length)
    (hbody : ∀ (cdv : Value) (A : Around) (outer : List Env) (s : Shared) (H : Hp) (vs : List V) (Q : VK) (E : XK), Room k (A.deeper (envOfC qual (defScope st) s.heap.objs.size f cdv)) → (A.deeper (envOfC qual (defScope st) s.heap.objs.size f cdv)).guards = some [] → sp vs H Q E →
      ∃ t, PSs (cxOf CX0 P w K mg base N qual (defScope st) f cdv A outer s H E).nox (defBody st) t ∧ t { nx := fun _ H' => Q .non H', rt := Q } (start N vs) H) : FnG P w K mg base CX0 (k + 1) f fd ps sp := by
  obtain ⟨oc, od, kV, doc, pm, an, cdv, ct, osl, rfl, lk, hcd⟩ := F.ex
  refine fn_ofG lk hcd S len fun A outer s H vs Q E hr hG hsp => ?_
  obtain ⟨t, h, q⟩ := hbody cdv A outer s H vs Q E hr hG hsp
  exact ⟨t, h.nox, q⟩
end
section
variable {X : Cx} {CX : CXT} {k : Nat} {f C : Addr} {fd : FuncData} {ps : List Str} {sp : Sp} {dvs : List V} {ds : List Value} {E : XK} {x m : Str} {p pos apos : Pos} {e o : Expr} {es : List Expr} {ta : TE} {t : TA}
theorem run_fnG {pins : List (Addr × Obj)} {σ : St} {H : Hp} {s : Shared} {Q : VK} {us : List Value} {vs : List V} (F : FnG X.prog X.w X.K X.mg X.base CX k f fd ps sp) (hr : Room k X.A) (hG : X.A.guards = some []) (hb : Binds X.K fd ps ds) (hd : Vals dvs ds) (hx : Passes CX X E)
    (I : Inv X pins σ H s) (r : Vals vs us) (h : sp (vs ++ dvs) H Q E) : wpAny (model X.prog X.w) X.A (call (.ref f) us) (EP X pins σ Q) X.xe s := by
  have r2 : Vals (vs ++ dvs) (us ++ ds) := r.append hd
  have hl : (us ++ ds).length = ps.length := by rw [← r2.length]; exact F.len _ _ _ _ h
  refine wpAny_call (codeAny_mono (F.run X.A X.stack s H ⟨us, []⟩ (us ++ ds) (vs ++ dvs) Q E hr hG I.env0 (hb s us I.kIn hl) r2 h) fun r s' hq => ?_)
  cases r with
  | error e => exact hx pins σ H s e s' I hq
  | ok fl =>
    cases fl with
    | ret u => exact I.after hq
    | next => exact False.elim hq
    | brk => exact False.elim hq
    | cont => exact False.elim hq
theorem pe_callG (F : FnG X.prog X.w X.K X.mg X.base CX k f fd ps sp) (hr : Room k X.A) (hG : X.A.guards = some []) (hg : Gl X x) (hm : X.mg x = some (.ref f)) (hk : PySem.W.keepIn X.K (.ref f) = true) (hb : Binds X.K fd ps ds) (hd : Vals dvs ds) (hx : Passes CX X E)
    (ha : PA X (e :: es) t) (hdb : (x == ("__debug__" : Str)) = false := by decide) (he : starEach (e :: es) X.env = (false, eval e X.env) :: starEach es X.env := by rfl) (hpl : (backTo pos (starEach es X.env)).any (·.1) = false := by rfl) :
    PE X (.Call (.Name x p) (e :: es) [] pos) (tCall sp dvs E t) := by
  refine ⟨fun pins s σ H Q I h => ?_⟩
  refine wpAny_Call_Name_kw (ld_glob I hg hm ?_ hdb)
  refine PySem.W.callWith_K (h₀ := X.base) I.ok.mod.kin hk (thn (ha.run pos pins s σ H _ I h) fun us s1 ⟨vs, H1, I1, r, q⟩ => ⟨I1.kIn, ?_⟩) he hpl
  exact run_fnG F hr hG hb hd hx I1 r q
end

/-! ### repr of data -/
def rRep (K : PySem.W.Frag) : List V → Hp → VK → Prop := fun xs H Q => ∃ x d, xs = [x] ∧ Dp K H x d ∧ d.showable = true ∧ d.hasDict = false ∧ d.depth ≤ 8 ∧ d.shown.length ≤ sizeLine ∧ Q (.str d.shown) H
theorem call_rep {X : Cx} (hG : X.A.guards = some []) (hu : X.A.units + 64 < cLine) : CallR X (.builtin "repr") (rRep X.K) := by
  intro pins s σ H xs us Q I r h
  obtain ⟨x, d, rfl, hd, hs, hn, hdp, hz, q⟩ := h
  obtain ⟨u, rfl, ru⟩ := vals1 r
  have fin : ∀ h' uu tk, (∀ b o, s.heap.get? b = some o → h'.get? b = some o) → EP X pins σ Q (.str d.shown uu) { s with heap := h', toks := tk } := fun h' uu tk hk => ⟨.str d.shown, H, I.kept hk, ⟨_, rfl⟩, q⟩
  have refs : ∀ a, u = .ref a → wpAny (model X.prog X.w) X.A (call (.builtin "repr") [u]) (EP X pins σ Q) X.xe s := fun a ea => by
    obtain ⟨as, rr⟩ := Dp.reads I d x u hd ru
    subst ea
    exact repr_of_reads' rr hs (fun z => by rw [hn] at z; cases z) hG (by omega) (fun _ _ e => e) (fun h' uu tk hk => fin h' uu tk hk) hz
  cases hd with
  | non => cases ru; exact PySem.P.repr_of_none (by simp only [PyData.shown] at fin; exact fin s.heap _ _ fun _ _ z => z)
  | bl b => cases ru; exact PySem.P.repr_of_bool (by simp only [PyData.shown] at fin; exact fin s.heap _ _ fun _ _ z => z)
  | int i => obtain ⟨t, rfl⟩ := ru; exact PySem.P.repr_of_int (by simpa [PyData.showable] using hs) (by simp only [PyData.shown] at fin; exact fin s.heap _ _ fun _ _ z => z)
  | str z => obtain ⟨t, rfl⟩ := ru; exact PySem.P.repr_of_str (by simp only [PyData.shown] at fin; exact fin s.heap _ _ fun _ _ z => z) (by simpa only [PyData.shown] using hz)
  | lst h1 h2 => exact refs _ ru
  | tup h1 h2 => exact refs _ ru


end L2.EH
end S_Z8
section S_M1
set_option maxRecDepth 100000
set_option maxHeartbeats 0
namespace L2.EH
open PySem PySem.Spec PyProof.Rows L2
/-! ### a hook of one's own: a def stands at an address that a path tells -/
structure DP where
  pl : PySem.W.Frag → Addr
  name : Str
  qual : Str
  st : Stmt
def fnP (K : PySem.W.Frag) (a : Addr) : He.FnW := match K.lookup a with
  | some ⟨_, _, .func fd, _⟩ => some (fd.name, fd.qualname, fd.params, fd.body, fd.scope, fd.globals, fd.closure, fd.builtins)
  | _ => none
def DP.val (d : DP) : He.FnW := some (d.name, d.qual, defArgs d.st, .stmts (defBody d.st), defScope d.st, mainGlobals, [], builtinsNs)
def noneV : Value → Bool
  | .none => true
  | _ => false
theorem noneV_ok {v : Value} (h : noneV v = true) : v = .none := by
  cases v <;> first | rfl | cases h
def DP.ok (K : PySem.W.Frag) (d : DP) : Bool := PySem.W.keepIn K (.ref (d.pl K)) && (match K.lookup (d.pl K) with
  | some ⟨_, _, .func fd, _⟩ => PySem.W.codeIn K fd.code d.qual && noneV fd.defaults
  | _ => false)
theorem DP.fun_ {K : PySem.W.Frag} {d : DP} (w1 : fnP K (d.pl K) = d.val) (w2 : d.ok K = true) : ∃ fd, Fun K d.name d.qual d.st (d.pl K) fd := by
  have w3 := Bool.and_eq_true_iff.mp w2
  have kept := w3.1
  have w4 := w3.2
  unfold fnP at w1
  rcases look : K.lookup (d.pl K) with _ | ⟨oc, od, dt, osl⟩
  · rw [look] at w4; cases w4
  · rw [look] at w4 w1
    cases dt with
    | func fd =>
      rcases fd with ⟨a1, a2, a3, a4, a5, a6, a7, a8, a9, a10, a11, a12, a13, a14, a15⟩
      have w5 : (some (a1, a2, a3, a4, a5, a6, a7, a15) : He.FnW) = some (d.name, d.qual, defArgs d.st, .stmts (defBody d.st), defScope d.st, mainGlobals, [], builtinsNs) := w1
      have w6 := Option.some.inj w5
      simp only [Prod.mk.injEq] at w6
      obtain ⟨z1, z2, z3, z4, z5, z6, z7, z8⟩ := w6
      subst z1 z2 z3 z4 z5 z6 z7 z8
      have w7 : (PySem.W.codeIn K a13 d.qual && noneV a8) = true := w4
      obtain ⟨w8, w9⟩ := Bool.and_eq_true_iff.mp w7
      obtain rfl := noneV_ok w9
      exact ⟨_, ⟨oc, od, a9, a10, a11, a12, a13, a14, osl, rfl, look, w8⟩, kept⟩
    | _ => cases w4
abbrev AlP : Type := Bool × List He.FnW
def obsP (ex : PySem.W.Frag → Bool) (fn : List DP) (K : PySem.W.Frag) : AlP := (ex K && fn.all fun d => d.ok K, fn.map fun d => fnP K (d.pl K))
def valP (fn : List DP) : AlP := (true, fn.map DP.val)
def SaysP (ex : PySem.W.Frag → Bool) (fn : List DP) (K : PySem.W.Frag) : Prop := obsP ex fn K = valP fn
def obsPG (n : Nat) (ex : PySem.W.Frag → Bool) (fn : List DP) (g : Addr → Option Obj) : AlP := obsP ex fn (He.frG g (He.asD g n))
def hookP (n : Nat) (ex : PySem.W.Frag → Bool) (fn : List DP) : PySem.W.Hook where
  α := AlP
  obs := fun s => obsPG n ex fn s.heap.get?
  val := fun _ => valP fn
  says := fun _ h => ∃ K : PySem.W.Frag, K.In h ∧ SaysP ex fn K
  of := fun _ _ e => ⟨_, He.frG_in, e⟩
  keeps := fun _ _ _ ⟨K, hK, c⟩ k => ⟨K, PySem.W.Frag.In.keeps hK k, c⟩
theorem obsPG_eq {n : Nat} {ex : PySem.W.Frag → Bool} {fn : List DP} {g : Addr → Option Obj} {s : Shared} (h : ∀ a, g a = s.heap.get? a) : obsPG n ex fn g = (hookP n ex fn).obs s := by
  obtain rfl : g = s.heap.get? := funext h
  rfl
theorem SaysP.ex {ex : PySem.W.Frag → Bool} {fn : List DP} {K : PySem.W.Frag} (c : SaysP ex fn K) : ex K = true := (Bool.and_eq_true_iff.mp (show (ex K && fn.all fun d => d.ok K) = true from congrArg (fun z : AlP => z.1) c)).1
theorem SaysP.def_ {ex : PySem.W.Frag → Bool} {fn : List DP} {K : PySem.W.Frag} (c : SaysP ex fn K) (i : Nat) {d : DP} (h : fn[i]? = some d := by rfl) : ∃ fd, Fun K d.name d.qual d.st (d.pl K) fd := by
  have c2 := (Bool.and_eq_true_iff.mp (show (ex K && fn.all fun d => d.ok K) = true from congrArg (fun z : AlP => z.1) c)).2
  have c3 : fn.map (fun d => fnP K (d.pl K)) = fn.map DP.val := congrArg (fun z : AlP => z.2) c
  have c4 : (fn.map fun d => fnP K (d.pl K))[i]? = (fn.map DP.val)[i]? := by rw [c3]
  rw [List.getElem?_map, List.getElem?_map, h] at c4
  exact DP.fun_ (Option.some.inj c4) (List.all_eq_true.mp c2 d (List.mem_of_getElem? h))
/-! ### the defs of this row -/
def gl (x : Str) : PySem.W.Frag → Addr := fun K => He.ga K x
def mth (C m : Str) : PySem.W.Frag → Addr := fun K => He.ma K (He.ga K C) m
def plain (x : Str) (st : Stmt) : DP := ⟨gl x, x, x, st⟩
def fnA : List DP := [plain "is_whole" sIsWhole, plain "is_row_of" sIsRowOf, plain "is_fraction" sIsFraction, plain "is_fraction_row" sIsFractionRow, plain "is_between" sIsBetween, plain "is_square" sIsSquare, plain "plain_in" sPlainIn, plain "shared_row" sSharedRow, plain "row_times" sRowTimes, plain "half_values" sHalfValues, plain "lowest_terms" sLowestTerms, plain "values_at_all" sValuesAtAll, plain "told_value" sToldValue, plain "adds_up_to_0" sAddsUp, plain "values_in_span" sValuesInSpan, plain "is_written_as_span" sIsWritten, plain "are_ascending" sAreAscending, plain "is_row_for" sIsRowFor, plain "asked_numbers" sAskedNumbers, plain "is_right" sIsRight, plain "is_same" sIsSame, plain "is_parting" sIsParting, plain "is_relation" sIsRelation, plain "rules_in" sRulesIn, plain "are_apart" sAreApart, plain "add_up_at" sAddUpAt, plain "add_up_in_span" sAddUpInSpan, plain "accepts" sAccepts]
def fnB : List DP := [plain "_law_cell" sCell, plain "_law_source" sSource, plain "_law_draw" sDraw, plain "_law_image" sImage, plain "_law_digits" sDigits, plain "_law_lines" sLines, plain "_law_at" sAt, plain "_law_number" sNumber, plain "_law_row" sRow, plain "_law_rule" sRule, plain "_law_plain" sPlain, plain "_law_joint" sJoint, plain "_law_divisor" sDivisor, plain "_law_thin" sThin, plain "_law_fraction" sFraction, plain "_law_cleared" sCleared, plain "_law_factors" sFactors, plain "_law_kept" sKept, plain "_law_small" sSmall, plain "_law_drawn_row" sDrawnRow, plain "_law_paper" sPaper, plain "_law_makes" sMakes, plain "_law_is_span" sIsSpan, plain "_law_sums" sSums, plain "_law_span_right" sSpanRight, plain "_law_parting_right" sPartingRight, plain "_law_right" sRight, plain "law" sLaw]
def fnE : List DP := [⟨mth "PlainRule" "__init__", "__init__", "PlainRule.__init__", sRuleInit⟩]
def fnAll : List DP := fnA ++ (fnB ++ fnE)
end L2.EH
end S_M1
section S_M2
set_option maxRecDepth 100000
set_option maxHeartbeats 0
namespace L2.EH
open PySem PySem.Spec PyProof.Rows L2
def frees : List Str := ("isinstance" : Str) :: ("int" : Str) :: ("bool" : Str) :: ("tuple" : Str) :: ("str" : Str) :: ("list" : Str) :: ("len" : Str) :: ("all" : Str) :: ("any" : Str) :: ("sum" : Str) :: ("range" : Str) :: ("enumerate" : Str) :: ("zip" : Str) :: ("sorted" : Str) :: ("reversed" : Str) :: ("abs" : Str) :: ("divmod" : Str) :: ("repr" : Str) :: ("max" : Str) :: ("min" : Str) :: []
def intB (K : PySem.W.Frag) (x : Str) (i : Int) : Bool := match PySem.W.nsIn K mainGlobals x with
  | some (some (.int j _)) => decide (j = i)
  | _ => false
/-- a written dict of texts: where the name leads -/
def dictAt (K : PySem.W.Frag) (x : Str) : Bool := match K.lookup (He.ga K x) with
  | some ⟨.type "dict", none, .dict es n, #[]⟩ => true
  | _ => false
/-- a written pair of ints -/
def pairAt (K : PySem.W.Frag) (x : Str) (a b : Int) : Bool := match K.lookup (He.ga K x) with
  | some ⟨.type "tuple", _, .seq its _, _⟩ => (match its.toList with
    | [.int i _, .int j _] => decide (i = a) && decide (j = b)
    | _ => false)
  | _ => false
def refB (K : PySem.W.Frag) (x y z : Str) : Bool := He.eqO (PySem.W.nsIn K (He.ga K x) y) (some (some (.ref (He.ga K z))))
def numB (K : PySem.W.Frag) (x y : Str) (i : Int) : Bool := match PySem.W.nsIn K (He.ga K x) y with
  | some (some (.int j _)) => decide (j = i)
  | _ => false
def mroB (K : PySem.W.Frag) : Bool := match PySem.W.mroIn K (He.ga K "PlainRule") (.type "object") with
  | some true => true
  | _ => false
def factsB (K : PySem.W.Frag) : List Bool :=
  [He.eqO (PySem.W.nsIn K mainGlobals "gcd") (some (some (.builtin "math.gcd"))), He.eqO (PySem.W.nsIn K mainGlobals "lcm") (some (some (.builtin "math.lcm"))), intB K "PLAIN_LINES" 100, intB K "SPAN" 200, intB K "RELATED" 6] ++
  ([(He.Fa.glo "PlainRule").ok K, (He.Fa.cls "PlainRule").ok K, (He.Fa.noat "PlainRule" "halves").ok K, (He.Fa.noat "PlainRule" "starts").ok K, (He.Fa.noat "PlainRule" "answer").ok K, (He.Fa.mkr "PlainRule").ok K] ++
  ([(He.Fa.glo "CHECKS").ok K, (He.Fa.glo "THINGS").ok K, dictAt K "CHECKS", dictAt K "THINGS", !(He.ga K "CHECKS" == sysModules), He.eqO (PySem.W.nsIn K (He.ga K "CHECKS") "relation") (some (some (.ref (He.ga K "is_relation")))), (match PySem.W.nsIn K (He.ga K "THINGS") "relation" with | some (some (.int j _)) => decide (j = 2) | _ => false)] ++
  [(He.Fa.glo "ZERO").ok K, pairAt K "ZERO" 0 1, mroB K, He.eqO (PySem.W.findIn K (.ref (He.ga K "PlainRule")) "__eq__") (some (some (.builtin "object.__eq__")))] ++
  [intB K "LARGEST" ((10 : Int) ^ 300), refB K "CHECKS" "same" "is_same", refB K "CHECKS" "parting" "is_parting", numB K "THINGS" "same" 2, numB K "THINGS" "parting" 3]))
def globs (fn : List DP) : List Str := fn.map (·.name)
def exB (K : PySem.W.Frag) : Bool := (frees.all fun x => (He.Fa.free x).ok K) && (((globs (fnA ++ fnB)).all fun x => (He.Fa.glo x).ok K) && (factsB K).all id)
abbrev RW : PySem.W.OpenRow := PySem.W.OpenLaw.row PySem.Challenge.rw_halverules_k66_whole_accepted_claims_are
end L2.EH
end S_M2
section S_M3
set_option maxRecDepth 100000
set_option maxHeartbeats 0
namespace L2.EH
open PySem PySem.W PySem.Calls PyProof.Rows L2
/-! ### where the top leaves its objects -/
def adr0 : List Addr := [3, 6, 4, 59, 70, 77, 84, 89, 96, 101, 106, 111, 116, 121, 128, 135, 142, 149, 154, 159, 164, 169, 174, 179, 180, 185, 192, 199, 204, 209, 214, 221, 228, 233, 238, 243, 248, 249, 250, 257]
def adr1 : List Addr := [262, 267, 272, 277, 284, 291, 298, 303, 310, 317, 324, 331, 336, 341, 346, 353, 360, 365, 372, 377, 382, 387, 392, 397, 402, 407, 412, 417, 422, 427, 434, 439, 0, 58, 69, 76, 83, 88, 95, 100]
def adr2 : List Addr := [105, 110, 115, 120, 127, 134, 141, 148, 153, 158, 163, 168, 173, 178, 184, 191, 198, 203, 208, 213, 220, 227, 232, 237, 242, 247, 256, 261, 266, 271, 276, 283, 290, 297, 302, 309, 316, 323, 330, 335]
def adr3 : List Addr := [340, 345, 352, 359, 364, 371, 376, 381, 386, 391, 396, 401, 406, 411, 416, 421, 426, 433, 438, 56, 57, 60, 61, 64, 65, 66, 67, 68, 71, 72, 73, 74, 75, 78, 79, 80, 81, 82, 85, 86]
def adr4 : List Addr := [87, 90, 91, 92, 93, 94, 97, 98, 99, 102, 103, 104, 107, 108, 109, 112, 113, 114, 117, 118, 119, 122, 123, 124, 125, 126, 129, 130, 131, 132, 133, 136, 137, 138, 139, 140, 143, 144, 145, 146]
def adr5 : List Addr := [147, 150, 151, 152, 155, 156, 157, 160, 161, 162, 165, 166, 167, 170, 171, 172, 175, 176, 177, 181, 182, 183, 186, 187, 188, 189, 190, 193, 194, 195, 196, 197, 200, 201, 202, 205, 206, 207, 210, 211]
def adr6 : List Addr := [212, 215, 216, 217, 218, 219, 222, 223, 224, 225, 226, 229, 230, 231, 234, 235, 236, 239, 240, 241, 244, 245, 246, 251, 252, 253, 254, 255, 258, 259, 260, 263, 264, 265, 268, 269, 270, 273, 274, 275]
def adr7 : List Addr := [278, 279, 280, 281, 282, 285, 286, 287, 288, 289, 292, 293, 294, 295, 296, 299, 300, 301, 304, 305, 306, 307, 308, 311, 312, 313, 314, 315, 318, 319, 320, 321, 322, 325, 326, 327, 328, 329, 332, 333]
def adr8 : List Addr := [334, 337, 338, 339, 342, 343, 344, 347, 348, 349, 350, 351, 354, 355, 356, 357, 358, 361, 362, 363, 366, 367, 368, 369, 370, 373, 374, 375, 378, 379, 380, 383, 384, 385, 388, 389, 390, 393, 394, 395]
def adr9 : List Addr := [398, 399, 400, 403, 404, 405, 408, 409, 410, 413, 414, 415, 418, 419, 420, 423, 424, 425, 428, 429, 430, 431, 432, 435, 436, 437, 55, 50, 51, 52, 53, 54]
def ats : List Addr := adr0 ++ (adr1 ++ (adr2 ++ (adr3 ++ (adr4 ++ (adr5 ++ (adr6 ++ (adr7 ++ (adr8 ++ (adr9)))))))))
def tabs : List He.Tab := [(gl "CHECKS", [("same" : Str), ("apart" : Str), ("parting" : Str), ("relation" : Str), ("rests" : Str), ("told" : Str)]), (gl "THINGS", [("same" : Str), ("apart" : Str), ("parting" : Str), ("relation" : Str), ("rests" : Str), ("told" : Str)])]
abbrev AlL : Type := AlP × List (Option (List (Option (Str × Int))))
def obsLK (ex : PySem.W.Frag → Bool) (fn : List DP) (ts : List He.Tab) (K : PySem.W.Frag) : AlL := (obsP ex fn K, ts.map fun t => He.dicW K (t.1 K))
def valL (fn : List DP) (ts : List He.Tab) (w : World) : AlL := (valP fn, ts.map fun t => some (He.keysIn w.params t.2))
def SaysL (ex : PySem.W.Frag → Bool) (fn : List DP) (ts : List He.Tab) (w : World) (K : PySem.W.Frag) : Prop := obsLK ex fn ts K = valL fn ts w
def obsL (ex : PySem.W.Frag → Bool) (fn : List DP) (ts : List He.Tab) (g : Addr → Option Obj) : AlL := obsLK ex fn ts (He.frG g ats)
def hookL (ex : PySem.W.Frag → Bool) (fn : List DP) (ts : List He.Tab) : PySem.W.Hook where
  α := AlL
  obs := fun s => obsL ex fn ts s.heap.get?
  val := fun w => valL fn ts w
  says := fun w h => ∃ K : PySem.W.Frag, K.In h ∧ SaysL ex fn ts w K
  of := fun _ _ e => ⟨_, He.frG_in, e⟩
  keeps := fun _ _ _ ⟨K, hK, c⟩ k => ⟨K, PySem.W.Frag.In.keeps hK k, c⟩
theorem obsL_eq {ex : PySem.W.Frag → Bool} {fn : List DP} {ts : List He.Tab} {g : Addr → Option Obj} {s : Shared} (h : ∀ a, g a = s.heap.get? a) : obsL ex fn ts g = (hookL ex fn ts).obs s := by
  obtain rfl : g = s.heap.get? := funext h
  rfl
theorem SaysL.p {ex : PySem.W.Frag → Bool} {fn : List DP} {ts : List He.Tab} {w : World} {K : PySem.W.Frag} (c : SaysL ex fn ts w K) : SaysP ex fn K := congrArg (fun z : AlL => z.1) c
theorem SaysL.tab {ex : PySem.W.Frag → Bool} {fn : List DP} {ts : List He.Tab} {w : World} {K : PySem.W.Frag} (c : SaysL ex fn ts w K) (i : Nat) {t : He.Tab} (h : ts[i]? = some t := by rfl) : ∃ es n, KDict K w (t.1 K) es n := by
  have e : ts.map (fun t => He.dicW K (t.1 K)) = ts.map fun t => some (He.keysIn w.params t.2) := congrArg (fun z : AlL => z.2) c
  have e2 : (ts.map fun t => He.dicW K (t.1 K))[i]? = (ts.map fun t => some (He.keysIn w.params t.2))[i]? := by rw [e]
  rw [List.getElem?_map, List.getElem?_map, h] at e2
  exact He.dicW_ok (Option.some.inj e2)
abbrev hkL : PySem.W.Hook := hookL exB fnAll tabs
def obL (s : PySem.W.SharedT) : AlL := obsL exB fnAll tabs (HandSHeadRun.getT s)
theorem obL_eq (s : PySem.W.SharedT) : obL s = hkL.obs s.abs := obsL_eq (HandSHeadRun.getT_eq s)
def n0 : List PySem.Str := ("__name__" : PySem.Str) :: ("STATES" : PySem.Str) :: ("LARGEST" : PySem.Str) :: ("MODULUS" : PySem.Str) :: ("PLAIN_LINES" : PySem.Str) :: ("SPAN" : PySem.Str) :: ("RELATED" : PySem.Str) :: ("PlainRule" : PySem.Str) :: ("is_whole" : PySem.Str) :: ("is_row_of" : PySem.Str) :: ("is_fraction" : PySem.Str) :: ("is_fraction_row" : PySem.Str) :: ("is_between" : PySem.Str) :: ("is_square" : PySem.Str) :: ("plain_in" : PySem.Str) :: ("shared_row" : PySem.Str) :: ("row_times" : PySem.Str) :: ("half_values" : PySem.Str) :: ("lowest_terms" : PySem.Str) :: ("values_at_all" : PySem.Str) :: ("first_values" : PySem.Str) :: ("told_value" : PySem.Str) :: ("adds_up_to_0" : PySem.Str) :: ("is_closed" : PySem.Str) :: ("made_row" : PySem.Str) :: ("matrix_of" : PySem.Str) :: []
def n1 : List PySem.Str := ("are_rows" : PySem.Str) :: ("sum_of_products" : PySem.Str) :: ("ZERO" : PySem.Str) :: ("values_in_span" : PySem.Str) :: ("is_written_as_span" : PySem.Str) :: ("are_ascending" : PySem.Str) :: ("is_row_for" : PySem.Str) :: ("asked_numbers" : PySem.Str) :: ("is_right" : PySem.Str) :: ("is_same" : PySem.Str) :: ("is_apart" : PySem.Str) :: ("is_parting" : PySem.Str) :: ("is_relation" : PySem.Str) :: ("is_rests" : PySem.Str) :: ("is_told" : PySem.Str) :: ("CHECKS" : PySem.Str) :: ("THINGS" : PySem.Str) :: ("accepts" : PySem.Str) :: ("rules_in" : PySem.Str) :: ("are_apart" : PySem.Str) :: ("add_up_at" : PySem.Str) :: ("add_up_in_span" : PySem.Str) :: ("_law_cell" : PySem.Str) :: ("_law_source" : PySem.Str) :: ("_law_draw" : PySem.Str) :: ("_law_image" : PySem.Str) :: []
def n2 : List PySem.Str := ("_law_digits" : PySem.Str) :: ("_law_lines" : PySem.Str) :: ("_law_at" : PySem.Str) :: ("_law_number" : PySem.Str) :: ("_law_row" : PySem.Str) :: ("_law_rule" : PySem.Str) :: ("_law_plain" : PySem.Str) :: ("_law_joint" : PySem.Str) :: ("_law_divisor" : PySem.Str) :: ("_law_thin" : PySem.Str) :: ("_law_fraction" : PySem.Str) :: ("_law_cleared" : PySem.Str) :: ("_law_factors" : PySem.Str) :: ("_law_kept" : PySem.Str) :: ("_law_small" : PySem.Str) :: ("_law_drawn_row" : PySem.Str) :: ("_law_paper" : PySem.Str) :: ("_law_makes" : PySem.Str) :: ("_law_is_span" : PySem.Str) :: ("_law_sums" : PySem.Str) :: ("_law_span_right" : PySem.Str) :: ("_law_parting_right" : PySem.Str) :: ("_law_right" : PySem.Str) :: []
def names : List PySem.Str := n0 ++ n1 ++ n2
/-- the run, boot and imports and all -/
noncomputable def whole (w : World) := HandSHeadRun.wholeF (fun p => HandSHeadRun.stepQ (HandSHeadRun.denQ HandSHeadRun.tabQ) p w) HandSHeadRun.fenceQ 7000 RW.prog
noncomputable def frK (s : SharedT) : PySem.W.Frag := He.frG (HandSHeadRun.getT s) ats
abbrev vw : Program := PySem.W.view RW.prog [0, 80]
end L2.EH
end S_M3
section S_M3r
set_option maxRecDepth 100000
set_option maxHeartbeats 0
namespace L2.EH
open PySem PySem.W PySem.Calls PyProof.Rows
/-- the world with the one habit that the written dicts ask for set to b -/
def wB (b : Bool) (w : World) : World := { w with params := { w.params with followText := fun s => if s == "special-get-raises" then b else w.params.followText s } }
theorem wB_eq (w : World) : wB (w.params.followText "special-get-raises") w = w := by
  have e : (fun s => if (s == "special-get-raises") = true then w.params.followText "special-get-raises" else w.params.followText s) = w.params.followText := by
    funext s
    by_cases h : s = "special-get-raises"
    · subst h; simp
    · simp [h]
  unfold wB
  rw [e]
theorem run_a0 (w : World) : (whole (wB false w)).map (fun x => (HandSHeadRun.looksF RW.prog x.1.heap x.2.abs, HandSHeadRun.seenQ vw names (importedModules RW.prog.main.body) (fun s => xlAt vw [] s && recOk RW.toRowW.records s) x.2.abs)) = some (true, openGood vw names) := by
  kernel_rfl
theorem run_a1 (w : World) : (whole (wB true w)).map (fun x => (HandSHeadRun.looksF RW.prog x.1.heap x.2.abs, HandSHeadRun.seenQ vw names (importedModules RW.prog.main.body) (fun s => xlAt vw [] s && recOk RW.toRowW.records s) x.2.abs)) = some (true, openGood vw names) := by
  kernel_rfl
theorem run_b0 (w : World) : (whole (wB false w)).map (fun x => obL x.2) = some (valL fnAll tabs (wB false w)) := by
  kernel_rfl
theorem run_b1 (w : World) : (whole (wB true w)).map (fun x => obL x.2) = some (valL fnAll tabs (wB true w)) := by
  kernel_rfl
theorem run_a (w : World) : (whole w).map (fun x => (HandSHeadRun.looksF RW.prog x.1.heap x.2.abs, HandSHeadRun.seenQ vw names (importedModules RW.prog.main.body) (fun s => xlAt vw [] s && recOk RW.toRowW.records s) x.2.abs)) = some (true, openGood vw names) := by
  have h := wB_eq w
  cases hb : w.params.followText "special-get-raises" with
  | false => rw [hb] at h; rw [← h]; exact run_a0 w
  | true => rw [hb] at h; rw [← h]; exact run_a1 w
theorem run_b (w : World) : (whole w).map (fun x => obL x.2) = some (valL fnAll tabs w) := by
  have h := wB_eq w
  cases hb : w.params.followText "special-get-raises" with
  | false => rw [hb] at h; rw [← h]; exact run_b0 w
  | true => rw [hb] at h; rw [← h]; exact run_b1 w
theorem map_two {α β γ : Type} {o : Option α} {f : α → β} {g : α → γ} {b : β} {c : γ} (h1 : o.map f = some b) (h2 : o.map g = some c) : ∃ x, o = some x ∧ f x = b ∧ g x = c := by
  obtain ⟨x, e, h⟩ := Option.map_eq_some_iff.mp h1
  obtain ⟨y, e', h'⟩ := Option.map_eq_some_iff.mp h2
  rw [e] at e'
  cases e'
  exact ⟨x, e, h, h'⟩
theorem run (w : World) : HandSHeadRun.RunEqI RW vw hkL obL 7000 names w := by
  unfold HandSHeadRun.RunEqI
  obtain ⟨x, e, h1, h2⟩ := map_two (run_a w) (run_b w)
  have e' : HandSHeadRun.wholeF (fun p => HandSHeadRun.stepQ (HandSHeadRun.denQ HandSHeadRun.tabQ) p w) HandSHeadRun.fenceQ 7000 RW.prog = some x := e
  rw [e']
  have h3 := Prod.mk.inj h1
  show some _ = some _
  exact congrArg some (Prod.ext h3.1 (Prod.ext h3.2 h2))
end L2.EH
end S_M3r
section S_Z10
set_option maxRecDepth 100000
set_option maxHeartbeats 4000000
namespace L2.EH
open PySem PySem.Spec PyProof.Rows L2
/-! ### the law's end, with the guards and the module's values that the top reckons -/
/-- the abstract heap at the law's entry: the script alone, if it is none of the module's own -/
def entryH (K : PySem.W.Frag) (a : Addr) (o : Obj) (xs : List V) : Hp := fun b => if b = a ∧ K.lookup a = none then some (.frz o (.lst xs)) else none
section
variable {P : Program} {w : World} {K : PySem.W.Frag} {mg mb : Str → Option Value} {a : Addr} {s₁ : Shared} {vs : List Value} {ns : List Int}
theorem entry_env (KX : K.In s₁.heap) (hns : s₁.heap.Ns mainGlobals mg) (hb : s₁.heap.Ns builtinsNs mb) (hbb : ∀ x : Str, x ≠ "__name__" → mb x = bootBuiltins x) (hlim : s₁.heap.NoLimit) (hg : s₁.gens = #[])
    (ha : s₁.heap.get? a = some { cls := .type "list", data := .seq vs.toArray }) (hi : IntsAre vs ns) (hl : ns.length ≤ sizeLine) :
    Env0 P w K mg (hidT s₁.heap (entryH K a { cls := .type "list", data := .seq vs.toArray } (ns.map V.int))) callerA [] s₁ (entryH K a { cls := .type "list", data := .seq vs.toArray } (ns.map V.int)) := by
  generalize hH : entryH K a { cls := .type "list", data := .seq vs.toArray } (ns.map V.int) = H
  have off : ∀ b, b ≠ a → H b = none := fun b hn => by rw [← hH]; exact if_neg fun z => hn z.1
  have offK : ∀ b o, K.lookup b = some o → H b = none := fun b o e => by
    rw [← hH]
    exact if_neg fun z => by rw [z.1, z.2] at e; cases e
  have see : ∀ {b : Addr} {o : Obj}, s₁.heap.get? b = some o → H b = none → (hidT s₁.heap H).get? b = some o := fun e n => hidT_get e n
  have ns' : ∀ {b : Addr} {m : Str → Option Value}, s₁.heap.Ns b m → (hidT s₁.heap H).Ns b m := fun {b m} ⟨o, es, ep, e, d, r⟩ => ⟨o, es, ep, see e (off b fun z => by
    rw [z, ha] at e
    cases e
    cases d), d, r⟩
  refine ⟨rfl, ⟨fun b o e => see (KX b o e) (offK b o e), ns' hns, ⟨mb, ns' hb, hbb⟩, ?_⟩, fun b o e => of_hidT e, Nat.le_of_eq (hidT_size _ _), trivial, fun b hb => absurd hb (List.not_mem_nil (a := b)), fun b u e => ?_, .of_eq hg⟩
  · obtain ⟨mc, h1, h2⟩ := hlim
    exact ⟨mc, ns' h1, h2⟩
  · by_cases hn : b = a
    · rw [hn] at e ⊢
      rw [← hH] at e
      unfold entryH at e
      split at e
      · cases e
        exact ⟨ha, by rw [List.length_map]; exact hl, vs, _, vals_ints hi, ha⟩
      · cases e
    · rw [off b hn] at e
      cases e
theorem entry_seq (KX : K.In s₁.heap) (ha : s₁.heap.get? a = some { cls := .type "list", data := .seq vs.toArray }) (hi : IntsAre vs ns) (hl : ns.length ≤ sizeLine) :
    SqL K (entryH K a { cls := .type "list", data := .seq vs.toArray } (ns.map V.int)) a (ns.map V.int) := by
  cases hk : K.lookup a with
  | none => exact .inl (.inr ⟨_, if_pos ⟨rfl, hk⟩⟩)
  | some o =>
    have e := KX a o hk
    rw [ha] at e
    cases e
    exact .inr ⟨_, vs.toArray, _, hk, rfl, rfl, rfl, by rw [List.size_toArray, hi.length]; exact hl, by simpa using vals_ints hi⟩
theorem entry_only (o : Obj) (xs : List V) : Only (entryH K a o xs) := fun b => by
  unfold entryH
  split
  · exact .inr ⟨_, _, rfl⟩
  · exact .inl rfl
theorem law_callG {CX : CXT} {k : Nat} {fa : Addr} {fd : FuncData} {x : Str} {sp : Sp}
    (KX : K.In s₁.heap) (hns : s₁.heap.Ns mainGlobals mg) (hb : s₁.heap.Ns builtinsNs mb) (hbb : ∀ x : Str, x ≠ "__name__" → mb x = bootBuiltins x) (hlim : s₁.heap.NoLimit) (hg : s₁.gens = #[])
    (ha : s₁.heap.get? a = some { cls := .type "list", data := .seq vs.toArray }) (hi : IntsAre vs ns) (hl : ns.length ≤ sizeLine) (hr : Room k callerA)
    (F : ∀ base : Heap, K.In base → base.Ns mainGlobals mg → FnG P w K mg base CX k fa fd [x] sp) (hbind : ∀ (s : Shared) (u : Value), BindsTo s fd ⟨[u], []⟩ [(x, u)])
    (hsp : ∀ H : Hp, Only H → SqL K H a (ns.map V.int) → sp [.ref a] H (fun v _ => v = .bl true) fun _ _ _ => False)
    (hCX : ∀ H e s', CX [] H s₁ (fun _ _ _ => False) e s' → False) :
    codeAny (model P w) callerA (.call (.ref fa) ⟨[.ref a], []⟩) (fun r s' => r = .ok (.ret (.bool true)) ∧ OldK s₁.heap s'.heap ∧ s'.os = s₁.os ∧ AllBare s'.gens) s₁ := by
  have e0 := entry_env (P := P) (w := w) KX hns hb hbb hlim hg ha hi hl
  have only := entry_only (K := K) (a := a) { cls := .type "list", data := .seq vs.toArray } (ns.map V.int)
  refine codeAny_mono ((F _ e0.mod.kin e0.mod.glob).run callerA [] s₁ _ ⟨[.ref a], []⟩ [.ref a] [.ref a] _ _ hr rfl e0 (hbind s₁ (.ref a)) (.cons rfl .nil) (hsp _ only (entry_seq KX ha hi hl))) fun r s' got => ?_
  match r, got with
  | .error e, got => exact (hCX _ e s' got).elim
  | .ok .next, got => exact got.elim
  | .ok .brk, got => exact got.elim
  | .ok .cont, got => exact got.elim
  | .ok (.ret u), ⟨v, H', os, bare, un, hok', r', q⟩ =>
    have q' : v = .bl true := q
    subst q'
    obtain rfl : u = Value.bool true := r'
    refine ⟨rfl, OldK.of_keep fun b o e => ?_, os, bare⟩
    rcases only b with n | ⟨ob, xs, z⟩
    · exact un.keep b o e n (List.not_mem_nil (a := b)) (List.not_mem_nil (a := b))
    · have z1 := (e0.hok b _ z).1
      have z2 := (hok' b _ (un.frzs b ob _ z)).1
      rw [e] at z1
      cases z1
      exact z2
end
theorem walk_ofEG {l : PySem.W.OpenLaw} {n k : Nat} {q : Program} {loose : List Str} {XP : (Str → Option Value) → Heap → Prop} {YP : World → Heap → Prop} {d : DefRec} {CX : CXT} {x : Str}
    (hn : l.most = some n) (hn2 : n ≤ sizeLine) (hdf : d.params.defaults = []) (hr : Room k callerA)
    (F : ∀ (w : World) (mg : Str → Option Value) (fa : Addr) (h : Heap), YP w h → h.Ns mainGlobals mg → mg d.name = some (.ref fa) →
      ∃ (K : PySem.W.Frag) (fd : FuncData) (sp : Sp), K.In h ∧ (∀ (s : Shared) (u : Value), BindsTo s fd ⟨[u], []⟩ [(x, u)]) ∧
        (∀ (H : Hp) (a : Addr) (ns : List Int), ns.length ≤ n → Only H → SqL K H a (ns.map V.int) → sp [.ref a] H (fun v _ => v = .bl true) fun _ _ _ => False) ∧
        ∀ base : Heap, K.In base → base.Ns mainGlobals mg → FnG l.prog w K mg base CX k fa fd [x] sp)
    (hCX : ∀ (H : Hp) (s : Shared) (e : Value) (s' : Shared), CX [] H s (fun _ _ _ => False) e s' → False) :
    PySem.W.WalkO q loose XP YP l.row.toRowW d [] (fun f vs => PySem.call f vs) := by
  refine Att.attach_call hn hdf fun w s₀ s₁ mg mb fa o pm cd doc a vs ns G Y ho hd hcd hmg hobj hints hlen hg => ?_
  obtain ⟨K, fd, sp, KX, hb, hsp, hF⟩ := F w mg fa _ Y G.T.g hmg
  exact law_callG KX G.T.g G.T.b G.T.builtins G.T.nolimit hg hobj hints (Nat.le_trans hlen hn2) hr hF hb (fun H hO hS => hsp H a ns hlen hO hS) fun H e s' => hCX H s₁ e s'
end L2.EH
end S_Z10
section S_M3h
set_option maxRecDepth 100000
set_option maxHeartbeats 0
namespace L2.EH
open PySem PySem.W PySem.Calls PyProof.Rows
/-- the law holds if the facts that the head leaves give its def's promise -/
theorem head_gives
    (F : ∀ (w : World) (mg : PySem.Str → Option Value) (fa : Addr) (h : Heap) (K : PySem.W.Frag), K.In h → h.Ns mainGlobals mg → mg ("law" : PySem.Str) = some (.ref fa) → SaysL exB fnAll tabs w K →
      ∃ (fd : FuncData) (sp : L2.Sp), (∀ (s : Shared) (u : Value), BindsTo s fd ⟨[u], []⟩ [("_law_cells", u)]) ∧
        (∀ (H : L2.Hp) (a : Addr) (ns : List Int), ns.length ≤ 63 → L2.Only H → L2.SqL K H a (ns.map L2.V.int) → sp [.ref a] H (fun v _ => v = .bl true) fun _ _ _ => False) ∧
        ∀ base : Heap, K.In base → base.Ns mainGlobals mg → L2.EH.FnG RW.prog w K mg base L2.CX0 13 fa fd ["_law_cells"] sp) :
    PySem.Challenge.rw_halverules_k66_whole_accepted_claims_are.Holds := by
  w_on; o_law
  refine HandSHeadRun.head_imp (r := OpenLaw.row PySem.Challenge.rw_halverules_k66_whole_accepted_claims_are) (q := vw) (H := hkL) (ob := obL) (M := 7000) (loose := names) (d := HandSHeadRun.topDef (OpenLaw.row PySem.Challenge.rw_halverules_k66_whole_accepted_claims_are).prog 80) (kwd := []) obL_eq
    run (by kernel_rfl) (by kernel_rfl) (by kernel_rfl) (by rfl) (by first | assumption | decide +kernel) (by decide +kernel) ⟨rfl, rfl, rfl, rfl, rfl, by decide +kernel⟩ ?hw ?hc
  case hw => w_witness2
  case hc =>
    refine L2.EH.walk_ofEG (l := PySem.Challenge.rw_halverules_k66_whole_accepted_claims_are) (n := 63) (k := 13) (x := "_law_cells") (CX := L2.CX0) rfl (by decide) (by kernel_rfl) ⟨rfl, by decide, by decide⟩ ?F (fun _ _ _ _ z => z)
    intro w mg fa h Y G hmg0
    obtain ⟨K, KX, c⟩ := Y
    have hmg : mg ("law" : PySem.Str) = some (.ref fa) := by
      have e : (HandSHeadRun.topDef (OpenLaw.row PySem.Challenge.rw_halverules_k66_whole_accepted_claims_are).prog 80).name = ("law" : PySem.Str) := by kernel_rfl
      rw [← e]
      exact hmg0
    obtain ⟨fd, sp, hb, hs, hF⟩ := F w mg fa h K KX G hmg c
    exact ⟨K, fd, sp, KX, hb, hs, hF⟩
end L2.EH
end S_M3h
section S_T1
set_option maxRecDepth 100000
set_option maxHeartbeats 4000000
namespace L2.EH
open PySem PySem.Spec PyProof.Rows StX
/-! ### things of any kind -/
inductive Th where
  | non
  | bl (b : Bool)
  | int (i : Int)
  | str (s : Str)
  | tup (xs : List Th)
  | oth
/-- a list or a dict: what is never looked into -/
inductive Oth (K : PySem.W.Frag) (H : Hp) : V → Prop
  | lst {a : Addr} {xs : List V} (h : SqL K H a xs) : Oth K H (.ref a)
  | dct {a : Addr} {kvs : List (Key × V)} (h : H a = some (.dK kvs)) : Oth K H (.ref a)
mutual
inductive Td (K : PySem.W.Frag) (H : Hp) : V → Th → Prop
  | non : Td K H .non .non
  | bl (b : Bool) : Td K H (.bl b) (.bl b)
  | int (i : Int) : Td K H (.int i) (.int i)
  | str (x : Str) : Td K H (.str x) (.str x)
  | tup {a : Addr} {xs : List V} {ds : List Th} : SqT K H a xs → TdAll K H xs ds → Td K H (.ref a) (.tup ds)
  | oth {v : V} : Oth K H v → Td K H v .oth
inductive TdAll (K : PySem.W.Frag) (H : Hp) : List V → List Th → Prop
  | nil : TdAll K H [] []
  | cons {v : V} {vs : List V} {d : Th} {ds : List Th} : Td K H v d → TdAll K H vs ds → TdAll K H (v :: vs) (d :: ds)
end
theorem Oth.same {K : PySem.W.Frag} {H H' : Hp} {v : V} (s : Same H H') : Oth K H v → Oth K H' v
  | .lst h => .lst (s.seq h)
  | .dct h => .dct (s _ _ h)
mutual
theorem td_same {K : PySem.W.Frag} {H H' : Hp} (s : Same H H') : ∀ {v : V} {d : Th}, Td K H v d → Td K H' v d
  | _, _, .non => .non
  | _, _, .bl b => .bl b
  | _, _, .int i => .int i
  | _, _, .str x => .str x
  | _, _, .tup h r => .tup (same_tup s h) (tdAll_same s r)
  | _, _, .oth h => .oth (h.same s)
theorem tdAll_same {K : PySem.W.Frag} {H H' : Hp} (s : Same H H') : ∀ {vs : List V} {ds : List Th}, TdAll K H vs ds → TdAll K H' vs ds
  | _, _, .nil => .nil
  | _, _, .cons h r => .cons (td_same s h) (tdAll_same s r)
end
mutual
def ofD : PyData → Th
  | .none => .non
  | .bool b => .bl b
  | .int i => .int i
  | .str s => .str s
  | .list _ => .oth
  | .tuple ds => .tup (ofDs ds)
  | .dict _ => .oth
def ofDs : List PyData → List Th
  | [] => []
  | d :: ds => ofD d :: ofDs ds
end
mutual
theorem td_of_dp {K : PySem.W.Frag} {H : Hp} : ∀ {v : V} {d : PyData}, Dp K H v d → Td K H v (ofD d)
  | _, _, .non => .non
  | _, _, .bl b => .bl b
  | _, _, .int i => .int i
  | _, _, .str x => .str x
  | _, _, .lst h r => .oth (.lst h)
  | _, _, .tup h r => .tup h (tdAll_of_dp r)
theorem tdAll_of_dp {K : PySem.W.Frag} {H : Hp} : ∀ {vs : List V} {ds : List PyData}, DpAll K H vs ds → TdAll K H vs (ofDs ds)
  | _, _, .nil => .nil
  | _, _, .cons h r => .cons (td_of_dp h) (tdAll_of_dp r)
end
section
variable {K : PySem.W.Frag} {H : Hp}
theorem tdAll_len : ∀ {vs : List V} {ds : List Th}, TdAll K H vs ds → vs.length = ds.length
  | _, _, .nil => rfl
  | _, _, .cons _ r => by simp [tdAll_len r]
theorem tdAll_get : ∀ {vs : List V} {ds : List Th}, TdAll K H vs ds → ∀ {i : Nat} {v : V}, vs[i]? = some v → ∃ d, ds[i]? = some d ∧ Td K H v d
  | _, _, .cons h r, 0, v, e => ⟨_, rfl, by cases e; exact h⟩
  | _, _, .cons h r, i + 1, v, e => by
    obtain ⟨d, e1, e2⟩ := tdAll_get r (i := i) (v := v) (by simpa using e)
    exact ⟨d, by simpa using e1, e2⟩
theorem tdAll_get' : ∀ {vs : List V} {ds : List Th}, TdAll K H vs ds → ∀ {i : Nat} {d : Th}, ds[i]? = some d → ∃ v, vs[i]? = some v ∧ Td K H v d
  | _, _, .cons h r, 0, d, e => ⟨_, rfl, by cases e; exact h⟩
  | _, _, .cons h r, i + 1, d, e => by
    obtain ⟨v, e1, e2⟩ := tdAll_get' r (i := i) (d := d) (by simpa using e)
    exact ⟨v, by simpa using e1, e2⟩
theorem td_tup {v : V} {ds : List Th} (h : Td K H v (.tup ds)) : ∃ a xs, v = .ref a ∧ SqT K H a xs ∧ TdAll K H xs ds := by
  cases h with
  | tup h r => exact ⟨_, _, rfl, h, r⟩
theorem td_int {v : V} {i : Int} (h : Td K H v (.int i)) : v = .int i := by cases h; rfl
theorem td_non {v : V} (h : Td K H v .non) : v = .non := by cases h; rfl
/-- Python's type of a thing -/
def Th.ty : Th → String
  | .non => "NoneType"
  | .bl _ => "bool"
  | .int _ => "int"
  | .str _ => "str"
  | .tup _ => "tuple"
  | .oth => "list"
theorem sqL_ty {K : PySem.W.Frag} {H : Hp} {a : Addr} {xs : List V} (h : SqL K H a xs) : TyX K H (.ref a) (.type "list") := by
  rcases h with (h | ⟨o, h⟩) | ⟨o, its, n, h1, h2, _⟩
  · exact .base (.lst h)
  · exact .base (.frz h)
  · exact .kList h1 h2
theorem td_ty {v : V} {d : Th} (h : Td K H v d) : ∃ t : String, TyX K H v (.type t) ∧ (t = d.ty ∨ d = .oth ∧ t = "dict") := by
  cases h with
  | non => exact ⟨_, .base .non, .inl rfl⟩
  | bl b => exact ⟨_, .base (.bl b), .inl rfl⟩
  | int i => exact ⟨_, .base (.int i), .inl rfl⟩
  | str x => exact ⟨_, .base (.str x), .inl rfl⟩
  | tup h r => exact ⟨_, sqT_ty h, .inl rfl⟩
  | oth h =>
    cases h with
    | lst h => exact ⟨_, sqL_ty h, .inl rfl⟩
    | dct h => exact ⟨_, .base (.dK h), .inr ⟨rfl, rfl⟩⟩
end
/-! ### what the checks answer -/
def Th.isInt : Th → Bool
  | .int _ => true
  | _ => false
def Th.isTuple : Th → Bool
  | .tup _ => true
  | _ => false
def Th.isStr : Th → Bool
  | .str _ => true
  | _ => false
def Th.isTup (n : Int) : Th → Bool
  | .tup xs => decide ((xs.length : Int) = n)
  | _ => false
mutual
def Th.fits : Th → Prop
  | .tup xs => xs.length ≤ 900 ∧ fitsAll xs
  | _ => True
def fitsAll : List Th → Prop
  | [] => True
  | x :: xs => x.fits ∧ fitsAll xs
end
theorem fitsAll_get : ∀ {xs : List Th}, fitsAll xs → ∀ {x : Th}, x ∈ xs → x.fits
  | y :: ys, h, x, hx => by
    unfold fitsAll at h
    rcases List.mem_cons.1 hx with e | e
    · rw [e]; exact h.1
    · exact fitsAll_get h.2 e
/-- isinstance of a thing -/
theorem td_isi {K : PySem.W.Frag} {H : Hp} {v : V} {d : Th} (h : Td K H v d) (T : String) (r : Bool) (h1 : kitB d.ty T = some r) (h2 : kitB "dict" T = some false) (h3 : d = .oth → r = false) : ∃ t, TyX K H v t ∧ PySem.W.kitOne K t (.type T) = some r := by
  obtain ⟨t, ht, e⟩ := td_ty h
  refine ⟨.type t, ht, kit_ty ?_⟩
  rcases e with e | ⟨e1, e2⟩
  · rw [e]; exact h1
  · rw [e2, h2, h3 e1]
theorem td_isTuple {K : PySem.W.Frag} {H : Hp} {v : V} {d : Th} (h : Td K H v d) : ∃ t, TyX K H v t ∧ PySem.W.kitOne K t (.type "tuple") = some d.isTuple := by
  refine td_isi h "tuple" d.isTuple ?_ (by decide +kernel) (by intro e; rw [e]; rfl)
  have t : kitB "NoneType" "tuple" = some false ∧ kitB "bool" "tuple" = some false ∧ kitB "int" "tuple" = some false ∧ kitB "str" "tuple" = some false ∧ kitB "tuple" "tuple" = some true ∧ kitB "list" "tuple" = some false := by decide +kernel
  cases d
  · exact t.1
  · exact t.2.1
  · exact t.2.2.1
  · exact t.2.2.2.1
  · exact t.2.2.2.2.1
  · exact t.2.2.2.2.2
theorem td_isStr {K : PySem.W.Frag} {H : Hp} {v : V} {d : Th} (h : Td K H v d) : ∃ t, TyX K H v t ∧ PySem.W.kitOne K t (.type "str") = some d.isStr := by
  refine td_isi h "str" d.isStr ?_ (by decide +kernel) (by intro e; rw [e]; rfl)
  have t : kitB "NoneType" "str" = some false ∧ kitB "bool" "str" = some false ∧ kitB "int" "str" = some false ∧ kitB "str" "str" = some true ∧ kitB "tuple" "str" = some false ∧ kitB "list" "str" = some false := by decide +kernel
  cases d
  · exact t.1
  · exact t.2.1
  · exact t.2.2.1
  · exact t.2.2.2.1
  · exact t.2.2.2.2.1
  · exact t.2.2.2.2.2
def fracOk (p : Int × Int) : Bool := decide (1 ≤ p.2) && decide (Int.gcd p.1 p.2 = 1)
def Th.frac? : Th → Option (Int × Int)
  | .tup [.int a, .int b] => if fracOk (a, b) = true then some (a, b) else none
  | _ => none
def fracs? : List Th → Option (List (Int × Int))
  | [] => some []
  | x :: xs => match x.frac?, fracs? xs with
    | some p, some ps => some (p :: ps)
    | _, _ => none
def Th.frow? (n : Int) : Th → Option (List (Int × Int))
  | .tup xs => if (xs.length : Int) = n then fracs? xs else none
  | _ => none
def frows? (n : Int) : List Th → Option (List (List (Int × Int)))
  | [] => some []
  | x :: xs => match x.frow? n, frows? n xs with
    | some p, some ps => some (p :: ps)
    | _, _ => none
def Th.square? (n : Int) : Th → Option (List (List (Int × Int)))
  | .tup xs => if (xs.length : Int) = n then frows? n xs else none
  | _ => none
def ints? : List Th → Option (List Int)
  | [] => some []
  | .int i :: xs => match ints? xs with
    | some ns => some (i :: ns)
    | none => none
  | _ :: _ => none
/-! ### the things that typed data are -/
def intT (i : Int) : Th := .int i
def pairT (p : Int × Int) : Th := .tup [.int p.1, .int p.2]
def prowT (ps : List (Int × Int)) : Th := .tup (ps.map pairT)
def matT (M : List (List (Int × Int))) : Th := .tup (M.map prowT)
def rowT (r : List Int) : Th := .tup (r.map intT)
theorem ofDs_map {α : Type} (f : α → PyData) : ∀ xs : List α, ofDs (xs.map f) = xs.map fun x => ofD (f x)
  | [] => rfl
  | x :: xs => by simp only [List.map_cons, ofDs, ofDs_map f xs]
theorem ofD_pair (p : Int × Int) : ofD (pairD p) = pairT p := rfl
theorem ofD_prow (ps : List (Int × Int)) : ofD (prowD ps) = prowT ps := by
  show Th.tup (ofDs _) = _
  rw [ofDs_map]; rfl
theorem ofD_row (r : List Int) : ofD (rowD r) = rowT r := by
  show Th.tup (ofDs _) = _
  rw [ofDs_map]; rfl
theorem frac?_some {d : Th} {p : Int × Int} (h : d.frac? = some p) : d = pairT p ∧ fracOk p = true := by
  unfold Th.frac? at h
  split at h
  · split at h
    · cases h
      exact ⟨rfl, by assumption⟩
    · cases h
  · cases h
theorem frac?_pair {p : Int × Int} (h : fracOk p = true) : (pairT p).frac? = some p := by
  show (if fracOk (p.1, p.2) = true then some (p.1, p.2) else none) = _
  rw [if_pos h]
theorem fracs?_some : ∀ {xs : List Th} {ps : List (Int × Int)}, fracs? xs = some ps → xs = ps.map pairT ∧ ps.all fracOk = true
  | [], ps, h => by cases h; exact ⟨rfl, rfl⟩
  | x :: xs, ps, h => by
    unfold fracs? at h
    split at h
    · rename_i p qs h1 h2
      cases h
      obtain ⟨e1, e2⟩ := frac?_some h1
      obtain ⟨e3, e4⟩ := fracs?_some h2
      exact ⟨by rw [e1, e3]; rfl, by simp [e2]; simpa using e4⟩
    · cases h
theorem fracs?_of : ∀ {ps : List (Int × Int)}, ps.all fracOk = true → fracs? (ps.map pairT) = some ps
  | [], _ => rfl
  | p :: ps, h => by
    rw [List.all_cons, Bool.and_eq_true] at h
    simp only [List.map_cons, fracs?, frac?_pair h.1, fracs?_of h.2]
theorem fracs?_len {xs : List Th} {ps : List (Int × Int)} (h : fracs? xs = some ps) : ps.length = xs.length := by
  rw [(fracs?_some h).1, List.length_map]
theorem frow?_some {n : Int} {d : Th} {ps : List (Int × Int)} (h : d.frow? n = some ps) : d = prowT ps ∧ ps.all fracOk = true ∧ (ps.length : Int) = n := by
  unfold Th.frow? at h
  split at h
  · split at h
    · obtain ⟨e1, e2⟩ := fracs?_some h
      refine ⟨by rw [e1]; rfl, e2, ?_⟩
      rw [fracs?_len h]; assumption
    · cases h
  · cases h
theorem frow?_of {n : Int} {ps : List (Int × Int)} (h : ps.all fracOk = true) (hn : (ps.length : Int) = n) : (prowT ps).frow? n = some ps := by
  show (if ((ps.map pairT).length : Int) = n then fracs? (ps.map pairT) else none) = _
  rw [List.length_map, if_pos hn, fracs?_of h]
theorem frows?_some {n : Int} : ∀ {xs : List Th} {M : List (List (Int × Int))}, frows? n xs = some M → xs = M.map prowT ∧ ∀ r, r ∈ M → r.all fracOk = true ∧ (r.length : Int) = n
  | [], M, h => by cases h; exact ⟨rfl, fun r h => by cases h⟩
  | x :: xs, M, h => by
    unfold frows? at h
    split at h
    · rename_i p qs h1 h2
      cases h
      obtain ⟨e1, e2⟩ := frow?_some h1
      obtain ⟨e3, e4⟩ := frows?_some h2
      refine ⟨by rw [e1, e3]; rfl, fun r hr => ?_⟩
      rcases List.mem_cons.1 hr with e | e
      · rw [e]; exact e2
      · exact e4 r e
    · cases h
theorem frows?_of {n : Int} : ∀ {M : List (List (Int × Int))}, (∀ r, r ∈ M → r.all fracOk = true ∧ (r.length : Int) = n) → frows? n (M.map prowT) = some M
  | [], _ => rfl
  | r :: M, h => by
    have ih := frows?_of (n := n) (M := M) fun q hq => h q (List.mem_cons_of_mem _ hq)
    simp only [List.map_cons, frows?, frow?_of (h r (by simp)).1 (h r (by simp)).2, ih]
theorem square?_some {n : Int} {d : Th} {M : List (List (Int × Int))} (h : d.square? n = some M) : d = matT M ∧ (∀ r, r ∈ M → r.all fracOk = true ∧ (r.length : Int) = n) ∧ (M.length : Int) = n := by
  unfold Th.square? at h
  split at h
  · split at h
    · obtain ⟨e1, e2⟩ := frows?_some h
      refine ⟨by rw [e1]; rfl, e2, ?_⟩
      have : M.length = (M.map prowT).length := by simp
      rw [this, ← e1]; assumption
    · cases h
  · cases h
theorem square?_of {n : Int} {M : List (List (Int × Int))} (h : ∀ r, r ∈ M → r.all fracOk = true ∧ (r.length : Int) = n) (hn : (M.length : Int) = n) : (matT M).square? n = some M := by
  show (if ((M.map prowT).length : Int) = n then frows? n (M.map prowT) else none) = _
  rw [List.length_map, if_pos hn, frows?_of h]
theorem ints?_some : ∀ {xs : List Th} {ns : List Int}, ints? xs = some ns → xs = ns.map intT
  | [], ns, h => by cases h; rfl
  | x :: xs, ns, h => by
    cases x with
    | int i =>
      unfold ints? at h
      split at h
      · rename_i ms h1
        cases h
        rw [ints?_some h1]; rfl
      · cases h
    | _ => cases h
theorem ints?_of : ∀ ns : List Int, ints? (ns.map intT) = some ns
  | [] => rfl
  | n :: ns => by
    show (match ints? (ns.map intT) with | some ms => some (n :: ms) | none => none) = _
    rw [ints?_of ns]
mutual
def toD : Th → PyData
  | .non => .none
  | .bl b => .bool b
  | .int i => .int i
  | .str s => .str s
  | .tup xs => .tuple (toDs xs)
  | .oth => .none
def toDs : List Th → List PyData
  | [] => []
  | x :: xs => toD x :: toDs xs
end
mutual
def noOth : Th → Bool
  | .tup xs => noOths xs
  | .oth => false
  | _ => true
def noOths : List Th → Bool
  | [] => true
  | x :: xs => noOth x && noOths xs
end
mutual
theorem dp_of_td {K : PySem.W.Frag} {H : Hp} : ∀ {v : V} {d : Th}, Td K H v d → noOth d = true → Dp K H v (toD d)
  | _, _, .non, _ => .non
  | _, _, .bl b, _ => .bl b
  | _, _, .int i, _ => .int i
  | _, _, .str x, _ => .str x
  | _, _, .tup h r, e => .tup h (dpAll_of_td r (by simpa [noOth] using e))
  | _, _, .oth h, e => by simp [noOth] at e
theorem dpAll_of_td {K : PySem.W.Frag} {H : Hp} : ∀ {vs : List V} {ds : List Th}, TdAll K H vs ds → noOths ds = true → DpAll K H vs (toDs ds)
  | _, _, .nil, _ => .nil
  | _, _, .cons h r, e => by
    simp [noOths] at e
    exact .cons (dp_of_td h e.1) (dpAll_of_td r e.2)
end
theorem noOths_map {α : Type} (f : α → Th) (h : ∀ x, noOth (f x) = true) : ∀ xs : List α, noOths (xs.map f) = true
  | [] => rfl
  | x :: xs => by simp [noOths, h x, noOths_map f h xs]
theorem toDs_map {α : Type} (f : α → Th) : ∀ xs : List α, toDs (xs.map f) = xs.map fun x => toD (f x)
  | [] => rfl
  | x :: xs => by simp only [List.map_cons, toDs, toDs_map f xs]
theorem noOth_prow (ps : List (Int × Int)) : noOth (prowT ps) = true := noOths_map pairT (fun _ => rfl) ps
theorem noOth_mat (M : List (List (Int × Int))) : noOth (matT M) = true := noOths_map prowT noOth_prow M
theorem toD_prow (ps : List (Int × Int)) : toD (prowT ps) = prowD ps := by
  show PyData.tuple (toDs _) = _
  rw [toDs_map]; rfl
theorem dp_prow {K : PySem.W.Frag} {H : Hp} {v : V} {ps : List (Int × Int)} (h : Td K H v (prowT ps)) : Dp K H v (prowD ps) := by
  have := dp_of_td h (noOth_prow ps)
  rwa [toD_prow] at this
theorem tdAll_prows {K : PySem.W.Frag} {H : Hp} {vs : List V} {M : List (List (Int × Int))} (h : TdAll K H vs (M.map prowT)) : DpAll K H vs (M.map prowD) := by
  have := dpAll_of_td h (noOths_map prowT noOth_prow M)
  rw [toDs_map] at this
  have e : (fun x => toD (prowT x)) = prowD := funext toD_prow
  rwa [e] at this
theorem tdAll_ints {K : PySem.W.Frag} {H : Hp} : ∀ {vs : List V} {ns : List Int}, TdAll K H vs (ns.map intT) → vs = ns.map V.int
  | _, [], .nil => rfl
  | _, n :: ns, .cons h r => by rw [td_int h, tdAll_ints r]; rfl
theorem td_row {K : PySem.W.Frag} {H : Hp} {v : V} {ns : List Int} (h : Td K H v (rowT ns)) : ∃ a, v = .ref a ∧ SqT K H a (ns.map V.int) := by
  obtain ⟨a, xs, e, h1, h2⟩ := td_tup h
  rw [tdAll_ints h2] at h1
  exact ⟨a, e, h1⟩
end L2.EH
end S_T1
section S_T2
set_option maxRecDepth 100000
set_option maxHeartbeats 4000000
namespace L2.EH
open PySem PySem.Spec PyProof.Rows StX
/-! ### built-in names that the module does not bind -/
structure BN (mg : Str → Option Value) : Prop where
  isinst : mg "isinstance" = none
  int : mg "int" = none
  bool : mg "bool" = none
  tuple : mg "tuple" = none
  str : mg "str" = none
  list : mg "list" = none
  len : mg "len" = none
  all : mg "all" = none
  any : mg "any" = none
  sum : mg "sum" = none
  range : mg "range" = none
  enum : mg "enumerate" = none
  zip : mg "zip" = none
  sorted : mg "sorted" = none
  reversed : mg "reversed" = none
  abs : mg "abs" = none
  divmod : mg "divmod" = none
  repr : mg "repr" = none
  max : mg "max" = none
  min : mg "min" = none
def Th.isBool : Th → Bool
  | .bl _ => true
  | _ => false
theorem td_isIntB {K : PySem.W.Frag} {H : Hp} {v : V} {d : Th} (h : Td K H v d) : ∃ t, TyX K H v t ∧ PySem.W.kitOne K t (.type "int") = some (d.isInt || d.isBool) := by
  refine td_isi h "int" (d.isInt || d.isBool) ?_ (by decide +kernel) (by intro e; rw [e]; rfl)
  have t : kitB "NoneType" "int" = some false ∧ kitB "bool" "int" = some true ∧ kitB "int" "int" = some true ∧ kitB "str" "int" = some false ∧ kitB "tuple" "int" = some false ∧ kitB "list" "int" = some false := by decide +kernel
  cases d
  · exact t.1
  · exact t.2.1
  · exact t.2.2.1
  · exact t.2.2.2.1
  · exact t.2.2.2.2.1
  · exact t.2.2.2.2.2
theorem td_isBool {K : PySem.W.Frag} {H : Hp} {v : V} {d : Th} (h : Td K H v d) : ∃ t, TyX K H v t ∧ PySem.W.kitOne K t (.type "bool") = some d.isBool := by
  refine td_isi h "bool" d.isBool ?_ (by decide +kernel) (by intro e; rw [e]; rfl)
  have t : kitB "NoneType" "bool" = some false ∧ kitB "bool" "bool" = some true ∧ kitB "int" "bool" = some false ∧ kitB "str" "bool" = some false ∧ kitB "tuple" "bool" = some false ∧ kitB "list" "bool" = some false := by decide +kernel
  cases d
  · exact t.1
  · exact t.2.1
  · exact t.2.2.1
  · exact t.2.2.2.1
  · exact t.2.2.2.2.1
  · exact t.2.2.2.2.2
def spIsWhole (K : PySem.W.Frag) : Sp := fun vs H Q _ => ∃ (v : V) (d : Th), vs = [v] ∧ Td K H v d ∧ Q (.bl d.isInt) H
def spIsRowOf (K : PySem.W.Frag) : Sp := fun vs H Q _ => ∃ (v : V) (d : Th) (n : Int), vs = [v, .int n] ∧ Td K H v d ∧ Q (.bl (d.isTup n)) H
def spIsFraction (K : PySem.W.Frag) : Sp := fun vs H Q _ => ∃ (v : V) (d : Th), vs = [v] ∧ Td K H v d ∧ Q (.bl d.frac?.isSome) H
def spIsFractionRow (K : PySem.W.Frag) : Sp := fun vs H Q _ => ∃ (v : V) (d : Th) (n : Int), vs = [v, .int n] ∧ Td K H v d ∧ d.fits ∧ ∀ H', Same H H' → Q (.bl (d.frow? n).isSome) H'
def spIsBetween (K : PySem.W.Frag) : Sp := fun vs H Q _ => ∃ (v : V) (d : Th) (lo hi : Int), vs = [v, .int lo, .int hi] ∧ Td K H v d ∧ ((∀ z, d = .int z → Q (.bl (decide (lo ≤ z ∧ z ≤ hi))) H) ∧ (d.isInt = false → Q (.bl false) H))
def spIsSquare (K : PySem.W.Frag) : Sp := fun vs H Q _ => ∃ (v : V) (d : Th) (n : Int), vs = [v, .int n] ∧ Td K H v d ∧ d.fits ∧ ∀ H', Same H H' → Q (.bl (d.square? n).isSome) H'
theorem scIsWhole : FnScope ["value"] ["value"] (defScope sIsWhole) := ⟨rfl, rfl, rfl, by decide +kernel, rfl, by decide +kernel, by decide +kernel⟩
theorem scIsRowOf : FnScope ["value", "many"] ["value", "many"] (defScope sIsRowOf) := ⟨rfl, rfl, rfl, by decide +kernel, rfl, by decide +kernel, by decide +kernel⟩
theorem scIsFraction : FnScope ["value"] ["value"] (defScope sIsFraction) := ⟨rfl, rfl, rfl, by decide +kernel, rfl, by decide +kernel, by decide +kernel⟩
theorem scIsFractionRow : FnScope ["value", "many", "pair"] ["value", "many"] (defScope sIsFractionRow) := ⟨rfl, rfl, rfl, by decide +kernel, rfl, by decide +kernel, by decide +kernel⟩
theorem scIsBetween : FnScope ["value", "low", "high"] ["value", "low", "high"] (defScope sIsBetween) := ⟨rfl, rfl, rfl, by decide +kernel, rfl, by decide +kernel, by decide +kernel⟩
theorem scIsSquare : FnScope ["value", "many", "row"] ["value", "many"] (defScope sIsSquare) := ⟨rfl, rfl, rfl, by decide +kernel, rfl, by decide +kernel, by decide +kernel⟩
theorem eq_int_dec (a b : Int) : decide (V.int a = V.int b) = decide (a = b) := by
  by_cases h : a = b
  · subst h; simp
  · rw [decide_eq_false h, decide_eq_false (fun q => h (by injection q))]
theorem take_snoc' {α : Type} (r : List α) (i : Nat) (q : α) (h : r[i]? = some q) : r.take (i + 1) = r.take i ++ [q] := by
  obtain ⟨hi, e⟩ := List.getElem?_eq_some_iff.1 h
  rw [List.take_succ_eq_append_getElem hi, e]
/-- the heap while the list at D grows: what stood stands, D holds the answers so far -/
structure Grow (H : Hp) (D : Addr) (vs : List V) (H' : Hp) : Prop where
  s : Same H H'
  d : H' D = some (.lst vs)
theorem Grow.start {H : Hp} {D : Addr} (nD : H D = none) : Grow H D [] (upd H D (.lst [])) := ⟨same_new nD, upd_same⟩
theorem Grow.step {H H' : Hp} {D : Addr} {vs : List V} (nD : H D = none) (g : Grow H D vs H') (v : V) : Grow H D (vs ++ [v]) (upd H' D (.lst (vs ++ [v]))) :=
  ⟨fun b o e => by rw [upd_ne (by intro z; rw [z, nD] at e; cases e)]; exact g.s _ _ e, upd_same⟩
theorem Grow.same {H H' H2 : Hp} {D : Addr} {vs : List V} (g : Grow H D vs H') (s : Same H' H2) : Grow H D vs H2 := ⟨g.s.trans s, s _ _ g.d⟩
theorem small1000 {n : Nat} (h : n ≤ 1000) : n < sizeLine := Nat.lt_of_le_of_lt h (by decide)
theorem natCast_natAbs (n : Nat) : ((n : Int)).natAbs = n := by omega
theorem iteT' {b : Bool} {P Q : Prop} (h : b = true) (p : P) : if b = true then P else Q := by rw [if_pos h]; exact p
theorem iteF' {b : Bool} {P Q : Prop} (h : b = false) (q : Q) : if b = true then P else Q := by rw [if_neg (by rw [h]; decide)]; exact q
/-- a list of answers that grows with a comprehension over a tuple of things -/
theorem map_bl_snoc {α : Type} (f : α → Bool) (xs : List α) (i : Nat) (x : α) (h : xs[i]? = some x) : ((xs.take (i + 1)).map f).map V.bl = ((xs.take i).map f).map V.bl ++ [V.bl (f x)] := by
  rw [take_snoc' xs i x h, List.map_append, List.map_append]; rfl
theorem fracs?_all : ∀ xs : List Th, (fracs? xs).isSome = (xs.map fun d => d.frac?.isSome).all id
  | [] => rfl
  | x :: xs => by
    have ih := fracs?_all xs
    rw [List.map_cons, List.all_cons, ← ih]
    show (match x.frac?, fracs? xs with | some p, some ps => some (p :: ps) | _, _ => none).isSome = _
    generalize fracs? xs = o
    cases x.frac? <;> cases o <;> rfl
theorem frows?_all (n : Int) : ∀ xs : List Th, (frows? n xs).isSome = (xs.map fun d => (d.frow? n).isSome).all id
  | [] => rfl
  | x :: xs => by
    have ih := frows?_all n xs
    rw [List.map_cons, List.all_cons, ← ih]
    show (match x.frow? n, frows? n xs with | some p, some ps => some (p :: ps) | _, _ => none).isSome = _
    generalize frows? n xs = o
    cases x.frow? n <;> cases o <;> rfl
theorem ints?_all : ∀ xs : List Th, (ints? xs).isSome = (xs.map fun d => d.isInt).all id
  | [] => rfl
  | x :: xs => by
    have ih := ints?_all xs
    rw [List.map_cons, List.all_cons, ← ih]
    cases x with
    | int i =>
      show (match ints? xs with | some ns => some (i :: ns) | none => none).isSome = _
      generalize ints? xs = o
      cases o <;> rfl
    | _ => rfl
section
variable {P : Program} {w : World} {K : PySem.W.Frag} {mg : Str → Option Value} {base : Heap}
theorem ok_isWhole {f : Addr} {fd : FuncData} (F : Fun K "is_whole" "is_whole" sIsWhole f fd) (B : BN mg) : FnOk P w K mg base CX0 1 f fd ["value"] (spIsWhole K) := by
  refine F.ok scIsWhole (fun vs H Q E h => ?_) (fun cdv A outer s H vs Q E hr h => ?_)
  · obtain ⟨v, d, rfl, _⟩ := h
    rfl
  · obtain ⟨v, d, rfl, hd, k⟩ := h
    refine ⟨_, pss_one (ps_ret (pe_and (pe_callB call_isi (by rfl) B.isinst (by decide +kernel) (pa_cons (pv 0) (pa_cons (pe_bltn (v := .ty "int") (by rfl) B.int (by decide +kernel) rfl) pa_nil)))
      (pe_one (pe_not (pe_callB call_isi (by rfl) B.isinst (by decide +kernel) (pa_cons (pv 0) (pa_cons (pe_bltn (v := .ty "bool") (by rfl) B.bool (by decide +kernel) rfl) pa_nil)))))) ), ?_⟩
    obtain ⟨t1, ht1, hk1⟩ := td_isIntB hd
    obtain ⟨t2, ht2, hk2⟩ := td_isBool hd
    refine ⟨_, rfl, _, _, t1, .type "int", _, rfl, .ty _, ht1, hk1, _, rfl, ?_⟩
    cases d with
    | int i => exact iteT ⟨_, rfl, _, _, t2, .type "bool", _, rfl, .ty _, ht2, hk2, _, rfl, k⟩
    | bl b => exact iteT ⟨_, rfl, _, _, t2, .type "bool", _, rfl, .ty _, ht2, hk2, _, rfl, k⟩
    | non => exact iteF k
    | str s => exact iteF k
    | tup xs => exact iteF k
    | oth => exact iteF k
theorem ok_isRowOf {f : Addr} {fd : FuncData} (F : Fun K "is_row_of" "is_row_of" sIsRowOf f fd) (B : BN mg) : FnOk P w K mg base CX0 1 f fd ["value", "many"] (spIsRowOf K) := by
  refine F.ok scIsRowOf (fun vs H Q E h => ?_) (fun cdv A outer s H vs Q E hr h => ?_)
  · obtain ⟨v, d, n, rfl, _⟩ := h
    rfl
  · obtain ⟨v, d, n, rfl, hd, k⟩ := h
    refine ⟨_, pss_one (ps_ret (pe_and (pe_callB call_isi (by rfl) B.isinst (by decide +kernel) (pa_cons (pv 0) (pa_cons (pe_bltn (v := .ty "tuple") (by rfl) B.tuple (by decide +kernel) rfl) pa_nil)))
      (pe_one (pe_cmpR op_eq (pe_callB call_len (by rfl) B.len boot_len (pa_cons (pv 0) pa_nil)) (pv 1) (nomark _))))), ?_⟩
    obtain ⟨t1, ht1, hk1⟩ := td_isTuple hd
    refine ⟨_, rfl, _, _, t1, .type "tuple", _, rfl, .ty _, ht1, hk1, _, rfl, ?_⟩
    cases d with
    | tup ds =>
      obtain ⟨a, xs, rfl, ha, hx⟩ := td_tup hd
      refine iteT ⟨_, rfl, _, _, rfl, .inr ⟨_, ha, rfl⟩, _, rfl, rfl, ?_⟩
      rw [eq_int_dec, tdAll_len hx]; exact k
    | _ => exact iteF k
theorem ok_isFraction {f fW fR : Addr} {fd fdW fdR : FuncData} (F : Fun K "is_fraction" "is_fraction" sIsFraction f fd) (G3 : mg "gcd" = some (.builtin "math.gcd"))
    (FW : Fn' P w K mg base 1 "is_whole" fW fdW ["value"] (spIsWhole K)) (FR : Fn' P w K mg base 1 "is_row_of" fR fdR ["value", "many"] (spIsRowOf K)) : FnOk P w K mg base CX0 2 f fd ["value"] (spIsFraction K) := by
  refine F.ok scIsFraction (fun vs H Q E h => ?_) (fun cdv A outer s H vs Q E hr h => ?_)
  · obtain ⟨v, p, rfl, _⟩ := h
    rfl
  · obtain ⟨v, d, rfl, hd, k⟩ := h
    refine ⟨_, pss_cons (ps_if (PW.pt (pw_or (pt_not (pt_val (pe_call FR.ok hr (by rfl) FR.m FR.k FR.b .nil pass0 (pa_cons (pv 0) (pa_cons pe_int pa_nil)))))
        (pw_or (pt_not (pt_val (pe_call FW.ok hr (by rfl) FW.m FW.k FW.b .nil pass0 (pa_cons (pe_ix ix_tup (pv 0) pe_int (fun _ _ => rfl)) pa_nil))))
        (pw_or1 (pt_not (pt_val (pe_call FW.ok hr (by rfl) FW.m FW.k FW.b .nil pass0 (pa_cons (pe_ix ix_tup (pv 0) pe_int (fun _ _ => rfl)) pa_nil)))))))) (pss_one (ps_ret pe_bl)) pss_nil)
      (pss_one (ps_ret (pe_and (pe_cmpR op_ge (pe_ix ix_tup (pv 0) pe_int (fun _ _ => rfl)) pe_int (nomark _))
        (pe_one (pe_cmpR op_eq (pe_callBfun cr_gcd (by rfl) G3 (pa_cons (pe_ix ix_tup (pv 0) pe_int (fun _ _ => rfl)) (pa_cons (pe_ix ix_tup (pv 0) pe_int (fun _ _ => rfl)) pa_nil))) pe_int (nomark _)))))), ?_⟩
    refine ⟨_, rfl, v, d, 2, rfl, hd, _, rfl, ?_⟩
    by_cases h2 : d.isTup 2 = true
    case neg =>
      rw [Bool.not_eq_true] at h2
      refine iteT' (by rw [h2]; rfl) ?_
      have e : d.frac? = none := by
        cases e : d.frac? with
        | none => rfl
        | some p =>
          obtain ⟨rfl, -⟩ := frac?_some e
          cases h2
      rw [e] at k; exact k
    refine iteF' (by rw [h2]; rfl) ?_
    obtain ⟨x, y, rfl⟩ : ∃ x y, d = .tup [x, y] := by
      cases d with
      | tup xs =>
        have h3 := of_decide_eq_true (show decide ((xs.length : Int) = 2) = true from h2)
        match xs, h3 with
        | [x, y], _ => exact ⟨x, y, rfl⟩
        | [], h => cases h
        | [_], h => cases h
        | _ :: _ :: _ :: _, h => simp at h; omega
      | _ => cases h2
    obtain ⟨a, vs, rfl, ha, hx⟩ := td_tup hd
    obtain ⟨v1, v2, rfl, d1, d2⟩ : ∃ v1 v2, vs = [v1, v2] ∧ Td K H v1 x ∧ Td K H v2 y := by
      cases hx with
      | cons h1 r => cases r with
        | cons h2 r => cases r with
          | nil => exact ⟨_, _, rfl, h1, h2⟩
    have at0 : atI [v1, v2] 0 = some v1 := rfl
    have at1 : atI [v1, v2] 1 = some v2 := rfl
    refine ⟨_, rfl, a, _, _, _, rfl, rfl, ha, at0, v1, x, rfl, d1, _, rfl, ?_⟩
    by_cases h3 : x.isInt = true
    case neg =>
      rw [Bool.not_eq_true] at h3
      refine iteT' (by rw [h3]; rfl) ?_
      have e : (Th.tup [x, y]).frac? = none := by cases x <;> first | rfl | cases h3
      rw [e] at k; exact k
    refine iteF' (by rw [h3]; rfl) ?_
    refine ⟨_, rfl, a, _, _, _, rfl, rfl, ha, at1, v2, y, rfl, d2, _, rfl, ?_⟩
    by_cases h4 : y.isInt = true
    case neg =>
      rw [Bool.not_eq_true] at h4
      refine iteT' (by rw [h4]; rfl) ?_
      have e : (Th.tup [x, y]).frac? = none := by cases x <;> cases y <;> first | rfl | cases h4
      rw [e] at k; exact k
    refine iteF' (by rw [h4]; rfl) ?_
    obtain ⟨p1, rfl⟩ : ∃ p, x = .int p := by cases x <;> first | exact ⟨_, rfl⟩ | cases h3
    obtain ⟨p2, rfl⟩ : ∃ p, y = .int p := by cases y <;> first | exact ⟨_, rfl⟩ | cases h4
    obtain rfl := td_int d1
    obtain rfl := td_int d2
    have ek : (Th.tup [.int p1, .int p2]).frac?.isSome = fracOk (p1, p2) := by
      show (if fracOk (p1, p2) = true then some (p1, p2) else none).isSome = _
      cases fracOk (p1, p2) <;> rfl
    rw [ek] at k
    refine ⟨_, rfl, a, _, _, _, rfl, rfl, ha, at1, _, _, rfl, rfl, _, rfl, ?_⟩
    by_cases h1 : (1 : Int) ≤ p2
    · rw [decide_eq_true h1]
      refine iteT ⟨_, rfl, a, _, _, _, rfl, rfl, ha, at0, _, rfl, a, _, _, _, rfl, rfl, ha, at1, _, _, rfl, rfl, ?_⟩
      have e : fracOk (p1, p2) = decide (V.int ((Nat.gcd p1.natAbs p2.natAbs : Nat) : Int) = V.int 1) := by
        rw [eq_int_dec]
        unfold fracOk
        rw [decide_eq_true h1, Bool.true_and]
        have : (((Nat.gcd p1.natAbs p2.natAbs : Nat) : Int) = 1) ↔ Int.gcd p1 p2 = 1 := by
          show ((Int.gcd p1 p2 : Nat) : Int) = 1 ↔ _
          omega
        exact decide_eq_decide.2 this.symm
      rw [e] at k
      exact k
    · rw [decide_eq_false h1]
      refine iteF ?_
      have e : fracOk (p1, p2) = false := by
        unfold fracOk
        rw [decide_eq_false h1, Bool.false_and]
      rw [e] at k
      exact k
theorem ok_isBetween {f fW : Addr} {fd fdW : FuncData} (F : Fun K "is_between" "is_between" sIsBetween f fd) (FI : Fn' P w K mg base 1 "is_whole" fW fdW ["value"] (spIsWhole K)) : FnOk P w K mg base CX0 2 f fd ["value", "low", "high"] (spIsBetween K) := by
  refine F.ok scIsBetween (fun vs H Q E h => ?_) (fun cdv A outer s H vs Q E hr h => ?_)
  · obtain ⟨z, d, lo, hi, rfl, _⟩ := h
    rfl
  · obtain ⟨v, d, lo, hi, rfl, hd, k1, k2⟩ := h
    refine ⟨_, pss_one (ps_ret (pe_and (pe_call FI.ok hr rfl FI.m FI.k FI.b .nil pass0 (pa_cons (pv 0) pa_nil)) (pe_one (pe_chain op_le op_le (pv 1) (pv 0) (pv 2))))), ?_⟩
    refine ⟨_, rfl, v, d, rfl, hd, _, rfl, ?_⟩
    cases d with
    | int z =>
      obtain rfl := td_int hd
      have k := k1 z rfl
      refine iteT ⟨_, rfl, _, rfl, _, _, rfl, rfl, _, rfl, ?_⟩
      by_cases h : lo ≤ z
      · rw [decide_eq_true h]
        refine iteT ⟨_, rfl, _, _, rfl, rfl, ?_⟩
        have e : decide (lo ≤ z ∧ z ≤ hi) = decide (z ≤ hi) := by simp [h]
        rw [e] at k; exact k
      · rw [decide_eq_false h]
        refine iteF ?_
        have e : decide (lo ≤ z ∧ z ≤ hi) = false := by simp [h]
        rw [e] at k; exact k
    | _ => exact iteF (k2 rfl)
theorem ok_isFractionRow {f fF fR : Addr} {fd fdF fdR : FuncData} (F : Fun K "is_fraction_row" "is_fraction_row" sIsFractionRow f fd) (B : BN mg)
    (FF : Fn' P w K mg base 2 "is_fraction" fF fdF ["value"] (spIsFraction K)) (FR : Fn' P w K mg base 1 "is_row_of" fR fdR ["value", "many"] (spIsRowOf K)) : FnOk P w K mg base CX0 3 f fd ["value", "many"] (spIsFractionRow K) := by
  refine F.ok scIsFractionRow (fun vs H Q E h => ?_) (fun cdv A outer s H vs Q E hr h => ?_)
  · obtain ⟨v, d, n, rfl, _⟩ := h
    rfl
  · obtain ⟨v, d, n, rfl, hd, hf, k⟩ := h
    have nd := scIsFractionRow.nd
    refine ⟨_, pss_one (ps_ret (pe_and (pe_call FR.ok (by exact hr.mono (by decide)) (by rfl) FR.m FR.k FR.b .nil pass0 (pa_cons (pv 0) (pa_cons (pv 1) pa_nil)))
      (pe_one (pe_callB (cr_all rfl) (by rfl) B.all (by decide +kernel) (pa_cons (pe_lc (own := [("pair", 2)]) (g := gName 2) (tt := tYes) rfl nd (pi_tup (pv 0)) (blkOk_by (own := [("pair", 2)]) (N := ["value", "many", "pair"]) (sc := defScope sIsFractionRow) (by decide +kernel)) (fun _ _ _ _ _ => pg_name (i := 2) nd rfl (Or.inl rfl) (Or.inr rfl)) (fun _ _ _ _ _ => pts_nil)
        (fun _ _ _ _ _ => pe_call FF.ok (by exact hr) (by rfl) FF.m FF.k FF.b .nil pass0 (pa_cons (pv 2) pa_nil))) pa_nil))))), ?_⟩
    refine ⟨_, rfl, _, rfl, v, d, n, rfl, hd, _, rfl, ?_⟩
    by_cases h1 : d.isTup n = true
    case neg =>
      rw [Bool.not_eq_true] at h1
      refine iteF' h1 ?_
      have e : d.frow? n = none := by
        cases d with
        | tup xs =>
          have := of_decide_eq_false (show decide ((xs.length : Int) = n) = false from h1)
          show (if (xs.length : Int) = n then fracs? xs else none) = none
          rw [if_neg this]
        | _ => rfl
      have := k H (Same.refl H)
      rw [e] at this
      exact this
    refine iteT' h1 ?_
    obtain ⟨ds, rfl⟩ : ∃ ds, d = .tup ds := by cases d <;> first | exact ⟨_, rfl⟩ | cases h1
    have hn := of_decide_eq_true (show decide ((ds.length : Int) = n) = true from h1)
    unfold Th.fits at hf
    obtain ⟨a, xs, rfl, ha, hx⟩ := td_tup hd
    have hlen := tdAll_len hx
    refine ⟨_, rfl, a, rfl, ⟨_, ha⟩, fun D nD => ?_⟩
    refine lc_out (walk_tup (xs := xs)) (fun i Hc => Grow H D (((ds.take i).map fun d => d.frac?.isSome).map V.bl) Hc) (Grow.start nD) (fun i Hc _ g => same_tup g.s ha) ?_ ?_
    · rintro i x Hc H' hi g ⟨rfl, hx'⟩
      obtain ⟨d, hd1, hd2⟩ := tdAll_get hx hx'
      refine ⟨rfl, _, rfl, x, d, rfl, td_same g.s hd2, ?_⟩
      refine ⟨_, g.d, by rw [List.length_map, List.length_map, List.length_take]; exact small1000 (by omega), ?_⟩
      have := g.step nD (V.bl d.frac?.isSome)
      rw [map_bl_snoc _ ds i d hd1]
      exact this
    · intro Hc g
      rw [hlen, List.take_length] at g
      refine ⟨D, _, rfl, SqL.of g.d, ?_⟩
      have e : ((Th.tup ds).frow? n).isSome = (ds.map fun d => d.frac?.isSome).all id := by
        rw [← fracs?_all]
        show (if (ds.length : Int) = n then fracs? ds else none).isSome = _
        rw [if_pos hn]
      rw [← e]
      exact k _ g.s
theorem ok_isSquare {f fF fR : Addr} {fd fdF fdR : FuncData} (F : Fun K "is_square" "is_square" sIsSquare f fd) (B : BN mg)
    (FF : Fn' P w K mg base 3 "is_fraction_row" fF fdF ["value", "many"] (spIsFractionRow K)) (FR : Fn' P w K mg base 1 "is_row_of" fR fdR ["value", "many"] (spIsRowOf K)) : FnOk P w K mg base CX0 4 f fd ["value", "many"] (spIsSquare K) := by
  refine F.ok scIsSquare (fun vs H Q E h => ?_) (fun cdv A outer s H vs Q E hr h => ?_)
  · obtain ⟨v, d, n, rfl, _⟩ := h
    rfl
  · obtain ⟨v, d, n, rfl, hd, hf, k⟩ := h
    have nd := scIsSquare.nd
    refine ⟨_, pss_one (ps_ret (pe_and (pe_call FR.ok (by exact hr.mono (by decide)) (by rfl) FR.m FR.k FR.b .nil pass0 (pa_cons (pv 0) (pa_cons (pv 1) pa_nil)))
      (pe_one (pe_callB (cr_all rfl) (by rfl) B.all (by decide +kernel) (pa_cons (pe_lc (own := [("row", 2)]) (g := gName 2) (tt := tYes) rfl nd (pi_tup (pv 0)) (blkOk_by (own := [("row", 2)]) (N := ["value", "many", "row"]) (sc := defScope sIsSquare) (by decide +kernel)) (fun _ _ _ _ _ => pg_name (i := 2) nd rfl (Or.inl rfl) (Or.inr rfl)) (fun _ _ _ _ _ => pts_nil)
        (fun _ _ _ _ _ => pe_call FF.ok (by exact hr) (by rfl) FF.m FF.k FF.b .nil pass0 (pa_cons (pv 2) (pa_cons (pv 1) pa_nil)))) pa_nil))))), ?_⟩
    refine ⟨_, rfl, _, rfl, v, d, n, rfl, hd, _, rfl, ?_⟩
    by_cases h1 : d.isTup n = true
    case neg =>
      rw [Bool.not_eq_true] at h1
      refine iteF' h1 ?_
      have e : d.square? n = none := by
        cases d with
        | tup xs =>
          have := of_decide_eq_false (show decide ((xs.length : Int) = n) = false from h1)
          show (if (xs.length : Int) = n then frows? n xs else none) = none
          rw [if_neg this]
        | _ => rfl
      have := k H (Same.refl H)
      rw [e] at this
      exact this
    refine iteT' h1 ?_
    obtain ⟨ds, rfl⟩ : ∃ ds, d = .tup ds := by cases d <;> first | exact ⟨_, rfl⟩ | cases h1
    have hn := of_decide_eq_true (show decide ((ds.length : Int) = n) = true from h1)
    unfold Th.fits at hf
    obtain ⟨a, xs, rfl, ha, hx⟩ := td_tup hd
    have hlen := tdAll_len hx
    refine ⟨_, rfl, a, rfl, ⟨_, ha⟩, fun D nD => ?_⟩
    refine lc_out (walk_tup (xs := xs)) (fun i Hc => Grow H D (((ds.take i).map fun d => (d.frow? n).isSome).map V.bl) Hc) (Grow.start nD) (fun i Hc _ g => same_tup g.s ha) ?_ ?_
    · rintro i x Hc H' hi g ⟨rfl, hx'⟩
      obtain ⟨d, hd1, hd2⟩ := tdAll_get hx hx'
      refine ⟨rfl, _, rfl, _, rfl, x, d, n, rfl, td_same g.s hd2, fitsAll_get hf.2 (List.mem_of_getElem? hd1), fun H2 s2 => ?_⟩
      refine ⟨_, (g.same s2).d, by rw [List.length_map, List.length_map, List.length_take]; exact small1000 (by omega), ?_⟩
      have := (g.same s2).step nD (V.bl (d.frow? n).isSome)
      rw [map_bl_snoc _ ds i d hd1]
      exact this
    · intro Hc g
      rw [hlen, List.take_length] at g
      refine ⟨D, _, rfl, SqL.of g.d, ?_⟩
      have e : ((Th.tup ds).square? n).isSome = (ds.map fun d => (d.frow? n).isSome).all id := by
        rw [← frows?_all]
        show (if (ds.length : Int) = n then frows? n ds else none).isSome = _
        rw [if_pos hn]
      rw [← e]
      exact k _ g.s
end
end L2.EH
end S_T2
section S_Z1
set_option maxRecDepth 100000
set_option maxHeartbeats 4000000
/-! zip and enumerate over lists and tuples in any mix. -/
namespace L2.EH
open PySem PySem.Spec PyProof.Rows L2
/-- a tuple (true) or a list (false) of these at a -/
def SqK (t : Bool) (K : PySem.W.Frag) (H : Hp) (a : Addr) (xs : List V) : Prop := match t with
  | true => SqT K H a xs
  | false => SqL K H a xs
def ItI (t : Bool) (h : Heap) (it a : Addr) (i : Nat) : Prop := match t with
  | true => h.IsTupleIter it a i
  | false => h.IsListIter it a i
def ItS (t : Bool) (h : Heap) (a : Addr) (its : Array Value) : Prop := match t with
  | true => h.IsTuple a its
  | false => h.IsList a its
def ItO (t : Bool) (a : Addr) : Obj := match t with
  | true => { cls := .type "tuple_iterator", data := .fields #[.ref a, .int 0 0] }
  | false => { cls := .type "list_iterator", data := .fields #[.ref a, .int 0 0] }
theorem SqK.same {t : Bool} {K : PySem.W.Frag} {H H' : Hp} {a : Addr} {xs : List V} (s : Same H H') (h : SqK t K H a xs) : SqK t K H' a xs := by
  cases t
  · exact s.seq h
  · exact same_tup s h
theorem itS_of {t : Bool} {X : Cx} {pins : List (Addr × Obj)} {σ : L2.St} {H : Hp} {s : Shared} {a : Addr} {xs : List V} (I : Inv X pins σ H s) (h : SqK t X.K H a xs) :
    ∃ its : List Value, Vals xs its ∧ ItS t s.heap a its.toArray := by
  cases t
  · obtain ⟨its, r, p, _⟩ := I.list h
    exact ⟨its, r, p.isList⟩
  · obtain ⟨its, r, p, _⟩ := I.tuple h
    exact ⟨its, r, p⟩
theorem itK_inj {t : Bool} {X : Cx} {pins : List (Addr × Obj)} {σ : L2.St} {H : Hp} {s : Shared} {a : Addr} {xs ys : List V} (I : Inv X pins σ H s) (h : SqK t X.K H a xs) (h' : SqK t X.K H a ys) : xs = ys := by
  cases t
  · exact I.list_inj h h'
  · exact I.tuple_inj h h'
theorem itD (t : Bool) {prog : Program} {w : World} {A : Around} (hh : A.handled = none) (it a : Addr) (ne : a ≠ it) (its : Array Value) : Draws prog w A it [it, a] its.size (fun i v => its[i]? = some v) (fun i h => ItI t h it a i ∧ ItS t h a its) := by
  cases t
  · exact Draws.list hh it a ne its
  · exact Draws.tuple hh it a ne its
theorem itB (t : Bool) (a : Addr) (its : Array Value) : Begins (.ref a) (ItO t a) fun h => ItS t h a its := by
  cases t
  · exact begins_list a its
  · exact begins_tuple a its
theorem itI_at {t : Bool} {h h' : Heap} {it a : Addr} {i : Nat} (x : ItI t h it a i) (k : ∀ o, h.get? it = some o → h'.get? it = some o) : ItI t h' it a i := by
  cases t
  · exact Heap.IsListIter.at x k
  · exact Heap.IsTupleIter.at x k
theorem itI_obj {t : Bool} {h : Heap} {it a : Addr} {i : Nat} (x : ItI t h it a i) : ∃ o, h.get? it = some o ∧ ∀ v, o.data ≠ .cell v := by
  cases t
  · obtain ⟨o, e, _, d⟩ := x
    exact ⟨o, e, fun v q => by rw [d] at q; cases q⟩
  · obtain ⟨o, e, _, d⟩ := x
    exact ⟨o, e, fun v q => by rw [d] at q; cases q⟩
theorem itI_begin {t : Bool} {h : Heap} {it a : Addr} (e : h.get? it = some (ItO t a)) : ItI t h it a 0 := by
  cases t
  · exact ⟨_, e, rfl, rfl⟩
  · exact ⟨_, e, rfl, rfl⟩
theorem itS_lt {t : Bool} {h : Heap} {a : Addr} {its : Array Value} (x : ItS t h a its) : a < h.objs.size := by
  cases t
  · obtain ⟨o, e, _⟩ := x; exact Heap.lt_size e
  · obtain ⟨o, e, _⟩ := x; exact Heap.lt_size e
/-! ### zip -/
def ItzK (t u : Bool) (K : PySem.W.Frag) (a b : Addr) : It :=
  ⟨fun i H => ∃ (xs ys : List V) (x y : V), SqK t K H a xs ∧ SqK u K H b ys ∧ xs[i]? = some x ∧ ys[i]? = some y,
   fun i H v H' => ∃ T x y, v = .ref T ∧ H T = none ∧ H' = upd H T (.tup [x, y]) ∧ (∀ xs, SqK t K H a xs → xs[i]? = some x) ∧ ∀ ys, SqK u K H b ys → ys[i]? = some y,
   fun i H => ∃ xs ys : List V, SqK t K H a xs ∧ SqK u K H b ys ∧ i = min xs.length ys.length⟩
theorem turn_zipK {P : Program} {w : World} {K : PySem.W.Frag} {es : List Expr} {kk : Nat} {tp : Pos} (t u : Bool) {a b z TI TO i1 i2 : Addr} (S : ZipSep2 z TI TO i1 i2 [i1, a] [i2, b]) (ne1 : a ≠ i1) (ne2 : b ≠ i2) :
    Turn P w K (.Tuple es kk tp) (ItzK t u K a b) [z, TI, TO, i1, i2] z (fun i h => IsZip h z TI TO .none ∧ IsTupOf2 h TI (.ref i1) (.ref i2) ∧ (∃ x y, IsTupOf2 h TO x y) ∧ ItI t h i1 a i ∧ ItI u h i2 b i) where
  mem := by simp
  obj := fun i h st c hc => by
    obtain ⟨q1, q2, ⟨x, y, q3⟩, q4, q5⟩ := st
    have e : c = z ∨ c = TI ∨ c = TO ∨ c = i1 ∨ c = i2 := by simpa using hc
    rcases e with rfl | rfl | rfl | rfl | rfl
    · exact ⟨_, q1, fun v q => nomatch q⟩
    · exact ⟨_, q2, fun v q => nomatch q⟩
    · exact ⟨_, q3, fun v q => nomatch q⟩
    · exact itI_obj q4
    · exact itI_obj q5
  keep := fun i h h' st k => by
    obtain ⟨q1, q2, ⟨x, y, q3⟩, q4, q5⟩ := st
    exact ⟨k z (by simp) _ q1, k TI (by simp) _ q2, ⟨x, y, k TO (by simp) _ q3⟩, itI_at q4 fun o => k i1 (by simp) o, itI_at q5 fun o => k i2 (by simp) o⟩
  item := by
    intro X hP hw hK hc i pins s σ H E I hf st hg
    subst hP hw hK
    obtain ⟨xs, ys, x, y, hqx, hqy, hx, hy⟩ := hg
    obtain ⟨q1, q2, q3, q4, q5⟩ := st
    obtain ⟨its, r1, p1⟩ := itS_of I hqx
    obtain ⟨jts, r2, p2⟩ := itS_of I hqy
    obtain ⟨u1, hu1, ru1⟩ := r1.get hx
    obtain ⟨u2, hu2, ru2⟩ := r2.get hy
    have l1 : i < its.toArray.size := by
      obtain ⟨h, _⟩ := List.getElem?_eq_some_iff.1 hu1
      simpa using h
    have l2 : i < jts.toArray.size := by
      obtain ⟨h, _⟩ := List.getElem?_eq_some_iff.1 hu2
      simpa using h
    have hd : X.A.in1.handled = none := I.ok.hd hc
    have G := GoesN.zip2 (elts := es) (x1 := kk) (pos := tp) S (itD t (prog := X.prog) (w := X.w) hd i1 a ne1 its.toArray) (itD u (prog := X.prog) (w := X.w) hd i2 b ne2 jts.toArray)
    refine G.goes i s _ E (Nat.lt_min.2 ⟨l1, l2⟩) ⟨q1, q2, q3, ⟨q4, p1⟩, ⟨q5, p2⟩⟩ fun v h' tk hY st' hk htk => ?_
    obtain ⟨T, v1, v2, rfl, hT, e1, e2, tup⟩ := hY
    have w1 : v1 = u1 := by
      have : its.toArray[i]? = some u1 := by simpa using hu1
      rw [this] at e1; exact (Option.some.inj e1).symm
    have w2 : v2 = u2 := by
      have : jts.toArray[i]? = some u2 := by simpa using hu2
      rw [this] at e2; exact (Option.some.inj e2).symm
    subst w1 w2
    have new : ObjOk X.prog X.w (upd H T (.tup [x, y])) h' T (.tup [x, y]) := ⟨by show 2 ≤ sizeLine; decide, [v1, v2], .cons ru1 (.cons ru2 .nil), tup⟩
    have I1 : Inv X pins σ (upd H T (.tup [x, y])) { s with heap := h', toks := tk } :=
      I.turnedNew (ch := [z, TI, TO, i1, i2]) (fun c o hb q => hk c o (fun m => hb (by simp at m; rcases m with m | m | m | m <;> simp [m])) q) hf hT new
    refine ⟨.ref T, _, I1, rfl, ⟨T, x, y, rfl, I.hok.fresh hT, rfl, fun l hl => by rw [itK_inj I hl hqx]; exact hx, fun l hl => by rw [itK_inj I hl hqy]; exact hy⟩, ⟨st'.1, st'.2.1, st'.2.2.1, st'.2.2.2.1.1, st'.2.2.2.2.1⟩, fun c hcm => ?_⟩
    have hlt : c < s.heap.objs.size := by
      have e : c = z ∨ c = TI ∨ c = TO ∨ c = i1 ∨ c = i2 := by simpa using hcm
      rcases e with rfl | rfl | rfl | rfl | rfl
      · exact Heap.lt_size q1
      · exact Heap.lt_size q2
      · obtain ⟨_, _, q⟩ := q3; exact Heap.lt_size q
      · obtain ⟨_, q, _⟩ := itI_obj q4; exact Heap.lt_size q
      · obtain ⟨_, q, _⟩ := itI_obj q5; exact Heap.lt_size q
    rw [upd_ne (Nat.ne_of_lt (Nat.lt_of_lt_of_le hlt hT))]
    exact (hf c hcm).1
  done := by
    intro X hP hw hK hc i pins s σ H E I hf st hg
    subst hP hw hK
    obtain ⟨xs, ys, hqx, hqy, hend⟩ := hg
    obtain ⟨q1, q2, ⟨a1, a2, q3⟩, q4, q5⟩ := st
    obtain ⟨its, r1, p1⟩ := itS_of I hqx
    obtain ⟨jts, r2, p2⟩ := itS_of I hqy
    have hd : X.A.in1.handled = none := I.ok.hd hc
    have G := GoesN.zip2 (elts := es) (x1 := kk) (pos := tp) S (itD t (prog := X.prog) (w := X.w) hd i1 a ne1 its.toArray) (itD u (prog := X.prog) (w := X.w) hd i2 b ne2 jts.toArray)
    have ei : i = min its.toArray.size jts.toArray.size := by
      rw [hend, r1.length, r2.length]; simp
    subst ei
    exact G.stops s _ E ⟨q1, q2, ⟨a1, a2, q3⟩, ⟨q4, p1⟩, ⟨q5, p2⟩⟩ fun h' tk hk htk => I.turnedL (t' := tk) (ch := [z, TI, TO, i1, i2]) (fun c o hb q => hk c o (fun m => hb (by simp at m; rcases m with m | m | m | m <;> simp [m])) q) hf
  self := fun A i s Q E st h => wpAny_pyIter_zip st.1 h
/-- the reading: the two sources, lists or tuples -/
def iZipK (t u : Bool) (K : PySem.W.Frag) (ta : TA) : TI := fun σ H R => ta σ H fun vs H1 => ∃ a b xs ys, vs = [.ref a, .ref b] ∧ SqK t K H1 a xs ∧ SqK u K H1 b ys ∧ R (ItzK t u K a b) H1
theorem pi_zipK {X : Cx} (t u : Bool) {e e2 : Expr} {ta : TA} {p pos tp : Pos} {es : List Expr} {kk : Nat} (hg : Gl X "zip") (hm : X.mg "zip" = none) (ha : PA X [e, e2] ta)
    (hs : starEach [e, e2] X.env = (false, eval e X.env) :: starEach [e2] X.env := by rfl) (hpl : (backTo pos (starEach [e2] X.env)).any (·.1) = false := by rfl) :
    PI X (.Tuple es kk tp) (.Call (.Name "zip" p) [e, e2] [] pos) (iZipK t u X.K ta) := by
  constructor
  intro pins s σ H R I h
  refine Call_ (ld_blt I hg hm PyProof.Rows.boot_zip (PyProof.Rows.callWith_type1 (thn (ha.run pos pins s σ H _ I h) fun us s1 ⟨vs, H1, I1, r1, a, b, xs, ys, ex, hqx, hqy, q⟩ => ?_) hs hpl))
  subst ex
  cases r1 with
  | cons ra rr =>
    cases rr with
    | cons rb rr =>
      cases rr
      cases ra
      cases rb
      obtain ⟨its, v1, p1⟩ := itS_of I1 hqx
      obtain ⟨jts, v2, p2⟩ := itS_of I1 hqy
      have la := itS_lt p1
      have lb := itS_lt p2
      generalize hN : s1.heap.objs.size = N at *
      refine zip_begins2 (itB t a its.toArray) (itB u b jts.toArray) p1 p2 fun h' z1 z2 z3 z4 z5 z6 hk => ?_
      rw [hN] at z1 z2 z3 z4 z5 z6 ⊢
      refine wpAny_pyIter_zip z1 ?_
      have I2 : Inv X pins σ H1 { s1 with heap := h' } := I1.kept (t' := s1.toks) hk
      refine ⟨N + 4, [N + 4, N + 2, N + 3, N, N + 1], _, _, H1, rfl, I2, turn_zipK t u (zip_sep2 (fp1 := [a]) (fp2 := [b]) (by simpa using la) (by simpa using lb)) (Nat.ne_of_lt la) (Nat.ne_of_lt (Nat.lt_succ_of_lt lb)), ⟨z1, z2, ⟨_, _, z3⟩, itI_begin z4, itI_begin z5⟩, fun c hcm => ?_, q⟩
      have hle : s1.heap.objs.size ≤ c := by
        rw [hN]
        have e : c = N + 4 ∨ c = N + 2 ∨ c = N + 3 ∨ c = N ∨ c = N + 1 := by simpa using hcm
        rcases e with rfl | rfl | rfl | rfl | rfl <;> first | exact Nat.le_add_right _ _ | exact Nat.le_refl _
      exact I1.fpOk hle (I1.hok.fresh hle)
theorem walk_zipK {t u : Bool} {K : PySem.W.Frag} {a b : Addr} {xs ys : List V} {n : Nat} (hn : n = min xs.length ys.length) : Walk (ItzK t u K a b) n (fun H => SqK t K H a xs ∧ SqK u K H b ys) (YPair (fun i => xs[i]?) (fun i => ys[i]?)) := by
  subst hn
  refine ⟨fun i H hi q => ?_, fun H q => ⟨xs, ys, q.1, q.2, rfl⟩, fun i H v H' _ q y => ?_⟩
  · obtain ⟨h1, h2⟩ := Nat.lt_min.1 hi
    exact ⟨xs, ys, xs[i], ys[i], q.1, q.2, List.getElem?_eq_getElem h1, List.getElem?_eq_getElem h2⟩
  · obtain ⟨T, x, y, e1, e2, e3, e4, e5⟩ := y
    exact ⟨T, x, y, e1, e2, e3, e4 _ q.1, e5 _ q.2⟩
/-! ### enumerate -/
def IteK (t : Bool) (K : PySem.W.Frag) (a : Addr) : It :=
  ⟨fun i H => ∃ (xs : List V) (x : V), SqK t K H a xs ∧ xs[i]? = some x,
   fun i H v H' => ∃ T x, v = .ref T ∧ H T = none ∧ H' = upd H T (.tup [.int (i : Nat), x]) ∧ ∀ xs, SqK t K H a xs → xs[i]? = some x,
   fun i H => ∃ xs : List V, SqK t K H a xs ∧ i = xs.length⟩
theorem turn_enumK {P : Program} {w : World} {K : PySem.W.Frag} {es : List Expr} {kk : Nat} {tp : Pos} (t : Bool) {a e it : Addr} (hei : e ≠ it) (hea : e ≠ a) (hai : a ≠ it) :
    Turn P w K (.Tuple es kk tp) (IteK t K a) [e, it] e (fun i h => (∃ old, IsEnum h e it ((0 : Int) + (i : Int)) old) ∧ ItI t h it a i) where
  mem := by simp
  obj := fun i h st c hc => by
    obtain ⟨⟨old, q1⟩, q2⟩ := st
    have z : c = e ∨ c = it := by simpa using hc
    rcases z with rfl | rfl
    · exact ⟨_, q1, fun v q => nomatch q⟩
    · exact itI_obj q2
  keep := fun i h h' st k => ⟨⟨_, k e (by simp) _ st.1.choose_spec⟩, itI_at st.2 fun o => k it (by simp) o⟩
  item := by
    intro X hP hw hK hc i pins s σ H E I hf st hg
    subst hP hw hK
    obtain ⟨xs, x, hqx, hx⟩ := hg
    obtain ⟨q1, q2⟩ := st
    obtain ⟨its, r1, p1⟩ := itS_of I hqx
    obtain ⟨u1, hu1, ru1⟩ := r1.get hx
    have l1 : i < its.toArray.size := by
      obtain ⟨h, _⟩ := List.getElem?_eq_some_iff.1 hu1
      simpa using h
    have hd : X.A.in1.handled = none := I.ok.hd hc
    have G := GoesN.enumFrom (elts := es) (x1 := kk) (pos := tp) 0 (itD t (prog := X.prog) (w := X.w) hd it a hai its.toArray) e hei (by simp [hei, hea]) (by simp)
    refine G.goes i s _ E l1 ⟨q1, q2, p1⟩ fun v h' tk hY st' hk htk => ?_
    obtain ⟨T, tk1, v1, rfl, hT, e1, tup⟩ := hY
    have w1 : v1 = u1 := by
      have : its.toArray[i]? = some u1 := by simpa using hu1
      rw [this] at e1; exact (Option.some.inj e1).symm
    subst w1
    rw [Int.zero_add] at tup
    have new : ObjOk X.prog X.w (upd H T (.tup [.int (i : Nat), x])) h' T (.tup [.int (i : Nat), x]) := ⟨by show 2 ≤ sizeLine; decide, [.int i tk1, v1], .cons ⟨_, rfl⟩ (.cons ru1 .nil), tup⟩
    have I1 : Inv X pins σ (upd H T (.tup [.int (i : Nat), x])) { s with heap := h', toks := tk } := I.turnedNew (ch := [e, it]) hk hf hT new
    refine ⟨.ref T, _, I1, rfl, ⟨T, x, rfl, I.hok.fresh hT, rfl, fun l hl => by rw [itK_inj I hl hqx]; exact hx⟩, ⟨st'.1, st'.2.1⟩, fun c hcm => ?_⟩
    have hlt : c < s.heap.objs.size := by
      have z : c = e ∨ c = it := by simpa using hcm
      rcases z with rfl | rfl
      · obtain ⟨_, q⟩ := q1; exact Heap.lt_size q
      · obtain ⟨_, q, _⟩ := itI_obj q2; exact Heap.lt_size q
    rw [upd_ne (Nat.ne_of_lt (Nat.lt_of_lt_of_le hlt hT))]
    exact (hf c hcm).1
  done := by
    intro X hP hw hK hc i pins s σ H E I hf st hg
    subst hP hw hK
    obtain ⟨xs, hqx, hend⟩ := hg
    obtain ⟨q1, q2⟩ := st
    obtain ⟨its, r1, p1⟩ := itS_of I hqx
    have hd : X.A.in1.handled = none := I.ok.hd hc
    have G := GoesN.enumFrom (elts := es) (x1 := kk) (pos := tp) 0 (itD t (prog := X.prog) (w := X.w) hd it a hai its.toArray) e hei (by simp [hei, hea]) (by simp)
    have ei : i = its.toArray.size := by
      rw [hend, r1.length]; simp
    subst ei
    exact G.stops s _ E ⟨q1, q2, p1⟩ fun h' tk hk htk => I.turnedL (t' := tk) (ch := [e, it]) hk hf
  self := fun A i s Q E st h => by
    obtain ⟨⟨old, q⟩, _⟩ := st
    exact wpAny_pyIter_enum q h
theorem meets_enumK {v : Value} {o : Obj} {S : Heap → Prop} (B : Begins v o S) :
    Meets (Builtin.«enumerate.__new__» ⟨[.type "enumerate", v], []⟩) (fun _ R s => S s.heap ∧
      R (.ok (.ret (.ref (s.heap.push o).objs.size))) { s with heap := (s.heap.push o).push { cls := .type "enumerate", data := .fields #[.none, .bool false, .ref s.heap.objs.size, rawInt 0, .none, .none] } }) := by
  refine .of_wp fun pr wo A R st h => ?_
  rcases st with ⟨hp, g, d, tk, os⟩; obtain ⟨hS, h⟩ := h
  have se := sub_enumerate
  have go : ∀ {A' : Around} {E : Value → Shared → Prop} {Q : Value → Shared → Prop}, Q (.ref hp.objs.size) ⟨hp.push o, g, d, tk, os⟩ → wpAny (model pr wo) A' (pyIter v) Q E ⟨hp, g, d, tk, os⟩ := fun q => B.iter pr wo _ _ ⟨hp, g, d, tk, os⟩ _ hS q
  wp_walk using go
  refine wpAny_stack_any fun sk => wpAny_pure ?_; split
  · rename_i c _ _ _ _ _; cases (c == Value.type "enumerate") <;> (wp_walk using go; exact ⟨_, rfl, h⟩)
  · wp_walk using go; exact ⟨_, rfl, h⟩
theorem call_enumK {v : Value} {o : Obj} {S : Heap → Prop} {pr : Program} {wo : World} {A : Around} {E : Value → Shared → Prop} {st : Shared} {Q : Value → Shared → Prop} (B : Begins v o S) (hS : S st.heap)
    (h : ∀ h', IsEnum h' (st.heap.objs.size + 1) st.heap.objs.size 0 .none → h'.get? st.heap.objs.size = some o → (∀ b q, st.heap.get? b = some q → h'.get? b = some q) → Q (.ref (st.heap.objs.size + 1)) { st with heap := h' }) :
    wpAny (model pr wo) A (call (.type "enumerate") [v]) Q E st := by
  refine callType_new F.called_enumerate (by decide) (F.typeCall_enumerate_1 _) (F.newCall_enumerate_1 _) (fun x => F.args_object_init_2 x _) F.entry_enumerate_new (meets_enumK B) ⟨hS, ?_⟩
  have z : (st.heap.push o).objs.size = st.heap.objs.size + 1 := by rw [Heap.size_push]
  have he := Heap.get?_push_size (st.heap.push o) (o := { cls := .type "enumerate", data := .fields #[.none, .bool false, .ref st.heap.objs.size, rawInt 0, .none, .none] }) rfl
  rw [z] at he
  show _ ∧ _
  rw [z]
  exact ⟨⟨_, he, rfl⟩, h _ he (Heap.get?_push_of_some _ (Heap.get?_push_size _ B.free)) fun b q e => Heap.get?_push_of_some _ (Heap.get?_push_of_some _ e)⟩
def iEnumK (t : Bool) (K : PySem.W.Frag) (ta : TA) : TI := fun σ H R => ta σ H fun vs H1 => ∃ a xs, vs = [.ref a] ∧ SqK t K H1 a xs ∧ R (IteK t K a) H1
theorem pi_enumK {X : Cx} (t : Bool) {e : Expr} {ta : TA} {p pos tp : Pos} {es : List Expr} {kk : Nat} (hg : Gl X "enumerate") (hm : X.mg "enumerate" = none) (ha : PA X [e] ta) (hs : starEach [e] X.env = [(false, eval e X.env)] := by rfl) :
    PI X (.Tuple es kk tp) (.Call (.Name "enumerate" p) [e] [] pos) (iEnumK t X.K ta) := by
  constructor
  intro pins s σ H R I h
  refine Call_ (ld_blt I hg hm boot_enumerate (PyProof.Rows.callWith_type1 (thn (ha.run pos pins s σ H _ I h) fun us s1 ⟨vs, H1, I1, r1, a, xs, ex, hqx, q⟩ => ?_) hs rfl))
  subst ex
  cases r1 with
  | cons ra rr =>
    cases rr
    cases ra
    obtain ⟨its, v1, p1⟩ := itS_of I1 hqx
    have la := itS_lt p1
    generalize hN : s1.heap.objs.size = N at *
    refine call_enumK (itB t a its.toArray) p1 fun h' z1 z2 hk => ?_
    rw [hN] at z1 z2 ⊢
    refine wpAny_pyIter_enum z1 ?_
    have I2 : Inv X pins σ H1 { s1 with heap := h' } := I1.kept (t' := s1.toks) hk
    refine ⟨N + 1, [N + 1, N], _, _, H1, rfl, I2, turn_enumK t (a := a) (Nat.succ_ne_self N) (Nat.ne_of_gt (Nat.lt_succ_of_lt la)) (Nat.ne_of_lt la), ⟨⟨_, by simpa using z1⟩, itI_begin z2⟩, fun c hcm => ?_, q⟩
    have hle : s1.heap.objs.size ≤ c := by
      rw [hN]
      have z : c = N + 1 ∨ c = N := by simpa using hcm
      rcases z with rfl | rfl <;> first | exact Nat.le_add_right _ _ | exact Nat.le_refl _
    exact I1.fpOk hle (I1.hok.fresh hle)
theorem walk_enumK {t : Bool} {K : PySem.W.Frag} {a : Addr} {xs : List V} : Walk (IteK t K a) xs.length (fun H => SqK t K H a xs) (YPair (fun i => some (.int (i : Nat))) (fun i => xs[i]?)) :=
  ⟨fun i _ hi q => ⟨xs, xs[i], q, List.getElem?_eq_getElem hi⟩, fun _ q => ⟨xs, q, rfl⟩, fun i H v H' _ q ⟨T, x, e1, e2, e3, e4⟩ => ⟨T, _, x, e1, e2, e3, rfl, e4 _ q⟩⟩
end L2.EH
end S_Z1
section S_T3
set_option exponentiation.threshold 20000
set_option maxRecDepth 100000
set_option maxHeartbeats 4000000
namespace L2.EH
open PySem PySem.Spec PyProof.Rows StX
open L2.Halves (has keys)
/-! ### math.lcm -/
def rLcm : List V → Hp → VK → Prop := fun vs H Q => ∃ a b : Int, vs = [.int a, .int b] ∧ a.natAbs < 2 ^ 13400 ∧ b.natAbs < 2 ^ 13400 ∧ Q (.int ((Nat.lcm a.natAbs b.natAbs : Nat) : Int)) H
theorem log2_13400 {n : Nat} (h : n < 2 ^ 13400) : n.log2 ≤ 13399 := PySem.W.mg_log (k := 13399) h
theorem cr_lcm {X : Cx} : CallR X (.builtin "math.lcm") rLcm := by
  intro pins s σ H vs us Q I r h
  obtain ⟨a, b, rfl, h1, h2, q⟩ := h
  obtain ⟨t, u, rfl⟩ := Vals.int2 r
  have e1 : Nat.lcm 1 a.natAbs = a.natAbs := by simp [Nat.lcm]
  have m1 : (max 1 a.natAbs).log2 ≤ 13399 := log2_13400 (by
    have : 1 < 2 ^ 13400 := Nat.one_lt_two_pow (by decide)
    rw [Nat.max_def]; split <;> assumption)
  have m2 : (max a.natAbs b.natAbs).log2 ≤ 13399 := log2_13400 (by rw [Nat.max_def]; split <;> assumption)
  have hl : ((Nat.lcm (Nat.lcm 1 a.natAbs) b.natAbs : Nat) : Int).natAbs.log2 < bitsLine := by
    rw [e1, Int.natAbs_natCast]
    have h3 : a.natAbs.lcm b.natAbs < 2 ^ (13400 + 13400) := by
      refine Nat.lt_of_le_of_lt (PySem.W.mc_lcm_le _ _) ?_
      rw [Nat.pow_add]
      exact Nat.mul_lt_mul'' h1 h2
    have h4 := PySem.W.mg_log (k := 26799) h3
    have h5 : (26799 : Nat) < bitsLine := by decide
    omega
  refine PySem.call_function_meets PySem.W.MGF.kind_lcm PySem.W.MGF.plain_lcm PySem.W.MGF.entry_lcm (PySem.W.MGF.args_lcm _ _) (PySem.W.mg_run_lcm a t b u (by omega) (by omega) hl).meets ?_
  rw [e1]
  exact ⟨.int _, H, I.tok _, ⟨_, rfl⟩, q⟩
/-! ### the mathematics of shared rows -/
def shr (ps : List (Int × Int)) : Nat := ps.foldl (fun n p => Nat.lcm n p.2.natAbs) 1
theorem shr_snoc (ps : List (Int × Int)) (p : Int × Int) : shr (ps ++ [p]) = Nat.lcm (shr ps) p.2.natAbs := by simp [shr]
def shRow (S : Int) : Nat → List (Int × Int) → Halves.Row
  | _, [] => []
  | i, p :: ps => if p.1 ≠ 0 then (i, p.1 * (S / p.2)) :: shRow S (i + 1) ps else shRow S (i + 1) ps
theorem shRow_snoc (S : Int) : ∀ (ps : List (Int × Int)) (i : Nat) (p : Int × Int), shRow S i (ps ++ [p]) = shRow S i ps ++ (if p.1 ≠ 0 then [(i + ps.length, p.1 * (S / p.2))] else [])
  | [], i, p => by
    simp only [List.nil_append, shRow, List.length_nil, Nat.add_zero]
    try split <;> rfl
  | q :: ps, i, p => by
    have ih := shRow_snoc S ps (i + 1) p
    have e : i + 1 + ps.length = i + (q :: ps).length := by simp; omega
    simp only [List.cons_append, shRow, ih, e]
    split <;> rfl
theorem shRow_keys (S : Int) : ∀ (ps : List (Int × Int)) (i k : Nat), k ∈ keys (shRow S i ps) → i ≤ k ∧ k < i + ps.length
  | [], i, k, h => by simp [shRow, keys] at h
  | q :: ps, i, k, h => by
    have ih := shRow_keys S ps (i + 1) k
    simp only [shRow] at h
    split at h
    · rcases (by simpa [keys] using h : k = i ∨ k ∈ keys (shRow S (i + 1) ps)) with e | e
      · subst e; simp
      · have := ih e; simp; omega
    · have := ih h; simp; omega
theorem shRow_nodup (S : Int) : ∀ (ps : List (Int × Int)) (i : Nat), (keys (shRow S i ps)).Nodup
  | [], i => by simp [shRow, keys]
  | q :: ps, i => by
    have ih := shRow_nodup S ps (i + 1)
    simp only [shRow]
    split
    · have : i ∉ keys (shRow S (i + 1) ps) := fun h => by
        have := shRow_keys S ps (i + 1) i h; omega
      show (i :: keys (shRow S (i + 1) ps)).Nodup
      exact List.nodup_cons.2 ⟨this, ih⟩
    · exact ih
theorem shRow_len (S : Int) : ∀ (ps : List (Int × Int)) (i : Nat), (shRow S i ps).length ≤ ps.length
  | [], i => by simp [shRow]
  | q :: ps, i => by
    have ih := shRow_len S ps (i + 1)
    simp only [shRow]
    split <;> simp <;> omega
/-! ### sums of products -/
def prods (r : Halves.Row) (ns : List Int) : List Int := r.map (fun p => p.2 * ns.getD p.1 0)
def rowTimes (r : Halves.Row) (ns : List Int) : Int := (prods r ns).sum
def spRowTimes (K : PySem.W.Frag) : Sp := fun vs H Q _ => ∃ (a b : Addr) (t : Bool) (r : Halves.Row) (ns : List Int) (n m : Nat), vs = [.ref a, .ref b] ∧ H a = some (.dK (rowK r)) ∧ SqK t K H b (ns.map V.int) ∧ (keys r).Nodup ∧ (∀ i, i ∈ keys r → i < ns.length) ∧ r.length ≤ 900 ∧
  (∀ p, p ∈ r → p.2.natAbs < 2 ^ n) ∧ (∀ z, z ∈ ns → z.natAbs < 2 ^ m) ∧ 0 < n ∧ 0 < m ∧ n + m ≤ 1000000 ∧ ∀ H', Same H H' → Q (.int (rowTimes r ns)) H'
def spSharedRow (K : PySem.W.Frag) : Sp := fun vs H Q _ => ∃ (v : V) (ps : List (Int × Int)), vs = [v] ∧ Dp K H v (prowD ps) ∧ ps.length ≤ 900 ∧ (∀ i, shr (ps.take i) < 2 ^ 60) ∧ (∀ p, p ∈ ps → 0 < p.2 ∧ p.2.natAbs < 2 ^ 60 ∧ p.1.natAbs < 2 ^ 1000) ∧
  ∀ H' t d, Same H H' → H t = none → H d = none → H' t = some (.tup [.ref d, .int (shr ps : Int)]) → H' d = some (.dK (rowK (shRow (shr ps : Int) 0 ps))) → Q (.ref t) H'
theorem scRowTimes : FnScope ["tops", "values", "at"] ["tops", "values"] (defScope sRowTimes) := ⟨rfl, rfl, rfl, by decide +kernel, rfl, by decide +kernel, by decide +kernel⟩
theorem scSharedRow : FnScope ["fractions", "shared", "_", "bottom", "at", "top"] ["fractions"] (defScope sSharedRow) := ⟨rfl, rfl, rfl, by decide +kernel, rfl, by decide +kernel, by decide +kernel⟩
section
variable {P : Program} {w : World} {K : PySem.W.Frag} {mg : Str → Option Value} {base : Heap}
theorem ok_rowTimes {f : Addr} {fd : FuncData} (F : Fun K "row_times" "row_times" sRowTimes f fd) (B : BN mg) : FnOk P w K mg base CX0 1 f fd ["tops", "values"] (spRowTimes K) := by
  refine F.ok scRowTimes (fun vs H Q E h => ?_) (fun cdv A outer s H vs Q E hr h => ?_)
  · obtain ⟨a, b, t, r, ns, n, m, rfl, _⟩ := h
    rfl
  · obtain ⟨a, b, t, r, ns, n, m, rfl, ha, hb, hn, hk, hl, hz, hy, n0, m0, hnm, k⟩ := h
    have hu := hu_of hr
    have nd := scRowTimes.nd
    refine ⟨_, pss_one (ps_ret (pe_callB (cr_sum rfl) (by rfl) B.sum (by decide +kernel) (pa_cons (pe_lock (pe_lc (own := [("at", 2)]) (g := gName 2) (tt := tYes) (te := tOp (rI CMulW fun i j => .int (i * j)) (tDGet (tVar 0) (tVar 2)) (tOp (rIx K) (tVar 1) (tVar 2))) rfl nd (pi_keys (pv 0)) (blkOk_by (own := [("at", 2)]) (N := ["tops", "values", "at"]) (sc := defScope sRowTimes) (by decide +kernel))
        (fun _ _ _ _ _ => pg_name (i := 2) nd rfl (Or.inl rfl) (Or.inr rfl)) (fun _ _ _ _ _ => pts_nil)
        (fun _ _ _ _ _ => pe_op op_mulW (pe_dget (by exact hu) (pv 0) (pv 2) (fun _ _ => rfl)) (pe_ix ix_seq (pv 1) (pv 2) (fun _ _ => rfl))))) pa_nil))), ?_⟩
    refine ⟨a, _, ha, trivial, fun od => ⟨_, rfl, a, od, rfl, .inl ⟨_, upd_same, fun D nD => ?_⟩⟩⟩
    have hDa : D ≠ a := by intro e; rw [e, upd_same] at nD; cases nD
    have nD' : H D = none := by rw [upd_ne hDa] at nD; exact nD
    refine lc_out (walk_keys (d := a) (o := od) (kvs := rowK r)) (fun i Hc => Hc a = some (.frz od (.dK (rowK r))) ∧ (∀ y o', y ≠ a → H y = some o' → Hc y = some o') ∧ Hc D = some (.lst ((prods (r.take i) ns).map V.int))) ⟨by rw [upd_ne (Ne.symm hDa), upd_same], fun y o' hy ho => by rw [upd_ne (by intro e; rw [e, nD'] at ho; cases ho), upd_ne hy]; exact ho, by rw [upd_same]; rfl⟩ (fun i Hc _ h => h.1) ?_ ?_
    · rintro i x H0 Hc hi ⟨hA, hs, hD⟩ ⟨rfl, kk, v, hkv, rfl⟩
      obtain ⟨p, hp, rfl, rfl⟩ := rowK_get r i kk v hkv
      have hpm : p ∈ r := List.mem_of_getElem? hp
      have hpk : p.1 ∈ keys r := List.mem_map.2 ⟨p, hpm, rfl⟩
      have hv : valV (rowK r) (Sum.inl (p.1 : Int)) = some (V.int p.2) := by
        rw [valV_rowK, if_pos ((Halves.has_iff r p.1).2 hpk), Halves.get_of_mem r p hn hpm]
      have dg : DGet Hc a (kV (Sum.inl (p.1 : Int))) (some (V.int p.2)) := .inl ⟨_, Sum.inl (p.1 : Int), .inr ⟨od, hA⟩, rfl, hv.symm⟩
      have hlt2 : p.1 < ns.length := hk p.1 hpk
      have eat : atI (ns.map V.int) (p.1 : Int) = some (V.int ns[p.1]) := atI_nat (by rw [List.getElem?_map, List.getElem?_eq_getElem hlt2]; rfl)
      have cm := wide_mul (hz p hpm) (hy _ (List.getElem_mem hlt2)) n0 m0 hnm
      have fin : ∃ acc, Hc D = some (.lst acc) ∧ acc.length < sizeLine ∧ ((upd Hc D (.lst (acc ++ [V.int (p.2 * ns[p.1])]))) a = some (.frz od (.dK (rowK r))) ∧ (∀ y o', y ≠ a → H y = some o' → (upd Hc D (.lst (acc ++ [V.int (p.2 * ns[p.1])]))) y = some o') ∧ (upd Hc D (.lst (acc ++ [V.int (p.2 * ns[p.1])]))) D = some (.lst ((prods (r.take (i + 1)) ns).map V.int))) := by
        refine ⟨_, hD, ?_, by rw [upd_ne (Ne.symm hDa)]; exact hA, fun y o' hy' ho => by rw [upd_ne (by intro e; rw [e, nD'] at ho; cases ho)]; exact hs y o' hy' ho, ?_⟩
        · have : (r.take i).length ≤ r.length := by simp; omega
          refine small1000 ?_
          simp [prods]; omega
        · rw [upd_same, take_snoc r i p hp]
          simp [prods, List.getD, List.getElem?_eq_getElem hlt2]
      cases t
      · have hb2 : SqL K Hc b (ns.map V.int) := by
          rcases hb with (h | ⟨o', h⟩) | h
          · exact .inl (.inl (hs b _ (by intro e; rw [e, ha] at h; cases h) h))
          · exact .inl (.inr ⟨o', hs b _ (by intro e; rw [e, ha] at h; cases h) h⟩)
          · exact .inr h
        exact ⟨rfl, _, rfl, _, rfl, a, _, rfl, dg, _, rfl, _, rfl, .inl ⟨b, _, _, _, rfl, rfl, hb2, eat, _, _, rfl, rfl, cm, fin⟩⟩
      · have hb2 : SqT K Hc b (ns.map V.int) := by
          rcases hb with (h | ⟨o', h⟩) | h
          · exact .inl (.inl (hs b _ (by intro e; rw [e, ha] at h; cases h) h))
          · exact .inl (.inr ⟨o', hs b _ (by intro e; rw [e, ha] at h; cases h) h⟩)
          · exact .inr h
        exact ⟨rfl, _, rfl, _, rfl, a, _, rfl, dg, _, rfl, _, rfl, .inr (.inl ⟨b, _, _, _, rfl, rfl, hb2, eat, _, _, rfl, rfl, cm, fin⟩)⟩
    · rintro Hc ⟨hA, hs, hD⟩
      rw [rowK_length, List.take_length] at hD
      have same : Same H (upd Hc a (.dK (rowK r))) := fun y o' ho => by
        by_cases ey : y = a
        · subst ey; rw [upd_same, ← ha]; exact ho
        · rw [upd_ne ey]; exact hs y o' ey ho
      exact ⟨hA, D, prods r ns, rfl, SqL.of (by rw [upd_ne hDa]; exact hD), k _ same⟩
end
end L2.EH
end S_T3
section S_T4
set_option exponentiation.threshold 20000
set_option maxRecDepth 100000
set_option maxHeartbeats 4000000
namespace L2.EH
open PySem PySem.Spec PyProof.Rows StX
open L2.Halves (has keys)
section
variable {P : Program} {w : World} {K : PySem.W.Frag} {mg : Str → Option Value} {base : Heap}
theorem ok_sharedRow {f : Addr} {fd : FuncData} (F : Fun K "shared_row" "shared_row" sSharedRow f fd) (B : BN mg) (GL : mg "lcm" = some (.builtin "math.lcm")) : FnOk P w K mg base CX0 1 f fd ["fractions"] (spSharedRow K) := by
  refine F.ok scSharedRow (fun vs H Q E h => ?_) (fun cdv A outer s H vs Q E hr h => ?_)
  · obtain ⟨v, ps, rfl, _⟩ := h
    rfl
  · obtain ⟨v, ps, rfl, hd, hl, hsh, hb, k⟩ := h
    obtain ⟨a, xs, rfl, ha, hx⟩ := dp_tup hd
    have hlen : xs.length = ps.length := by rw [dpAll_len hx, List.length_map]
    have hu := hu_of hr
    have nd := scSharedRow.nd
    refine ⟨_, pss_cons (ps_set (i := 1) nd rfl (Or.inr rfl) pe_int)
      (pss_cons (ps_for PassesOwn.never rfl (pi_tup (pv 0)) (pg_tup rfl (pgs_cons (pg_name (i := 2) nd rfl (Or.inl rfl)) (pgs_cons (pg_name (i := 3) nd rfl (Or.inl rfl)) pgs_nil)))
        (pss_one (ps_set (i := 1) nd rfl (Or.inr rfl) (pe_callBfun cr_lcm (by rfl) GL (pa_cons (pv 1) (pa_cons (pv 3) pa_nil))))))
      (pss_one (ps_ret (pe_tup (pa_cons (pe_dc (own := [("at", 4), ("top", 5), ("bottom", 3)]) (g := gTup K 2 (gCons (gName 4) (gCons (gTup K 2 (gCons (gName 5) (gCons (gName 3) gNil))) gNil))) rfl nd (pi_enumK true (by rfl) B.enum (pa_cons (pv 0) pa_nil)) (blkOk_by (own := [("at", 4), ("top", 5), ("bottom", 3)]) (N := ["fractions", "shared", "_", "bottom", "at", "top"]) (sc := defScope sSharedRow) (by decide +kernel))
        (fun _ _ _ _ _ => pg_tup rfl (pgs_cons (pg_name (i := 4) nd rfl (Or.inl rfl) (Or.inr rfl)) (pgs_cons (pg_tup rfl (pgs_cons (pg_name (i := 5) nd rfl (Or.inl rfl) (Or.inr rfl)) (pgs_cons (pg_name (i := 3) nd rfl (Or.inl rfl) (Or.inr rfl)) pgs_nil rfl) rfl) rfl rfl) pgs_nil rfl) rfl) rfl rfl)
        (fun _ _ _ _ _ => pts_one (pt_cmpR op_ne (pv 5) pe_int (nomark _))) (fun _ _ _ _ _ => pv 4) (fun _ _ _ _ _ => pe_op op_mulW (pv 5) (pe_op op_fdivW (pv 1) (pv 3)))) (pa_cons (pv 1) pa_nil)))))), ?_⟩
    refine ⟨_, rfl, a, rfl, ⟨_, ha⟩, ?_⟩
    refine for_it (walk_tup (xs := xs)) (fun i σ Hc => Hc = H ∧ ∃ x y : Option V, σ = [some (.ref a), some (.int (shr (ps.take i) : Int)), x, y, none, none]) ⟨rfl, none, none, rfl⟩ (fun i σ Hc _ h => by rw [h.1]; exact ha) ?_ ?_
    · rintro i x σ H0 Hc hi ⟨rfl, y, z, rfl⟩ ⟨rfl, hx'⟩
      obtain ⟨d, hd1, hd2⟩ := dpAll_get' hx hx'
      rw [List.getElem?_map] at hd1
      cases e : ps[i]? with
      | none => rw [e] at hd1; cases hd1
      | some p =>
        rw [e] at hd1
        cases hd1
        obtain ⟨b, rfl, hb2⟩ := dp_pair hd2
        have hpm := List.mem_of_getElem? e
        refine ⟨b, _, rfl, hb2, rfl, _, _, rfl, _, _, rfl, rfl, ?_⟩
        refine ⟨_, rfl, _, rfl, _, _, rfl, ?_, ?_, rfl, some (.int p.1), some (.int p.2), ?_⟩
        · rw [natCast_natAbs]; exact Nat.lt_trans (hsh i) (by decide)
        · exact Nat.lt_trans (hb p hpm).2.1 (by decide)
        · rw [take_snoc' ps i p e, shr_snoc, natCast_natAbs]; rfl
    · rintro σ Hc ⟨rfl, y, z, rfl⟩
      rw [hlen, List.take_length]
      have hS : shr ps < 2 ^ 60 := by have := hsh ps.length; rwa [List.take_length] at this
      refine ⟨_, rfl, a, xs, rfl, ha, fun D nD => ?_⟩
      refine lc_out (walk_enumK (t := true) (xs := xs)) (fun i Hc' => Same Hc Hc' ∧ Hc' D = some (.dK (rowK (shRow (shr ps : Int) 0 (ps.take i))))) ⟨same_new nD, by rw [upd_same]; simp [shRow, rowK]⟩ (fun i Hc' _ h => same_tup h.1 ha) ?_ ?_
      · rintro i x H0 H1 hi ⟨hs, hD⟩ ⟨T, u1, u2, rfl, hT, rfl, e1, e2⟩
        cases e1
        obtain ⟨d, hd1, hd2⟩ := dpAll_get' hx e2
        rw [List.getElem?_map] at hd1
        cases e : ps[i]? with
        | none => rw [e] at hd1; cases hd1
        | some p =>
          rw [e] at hd1
          cases hd1
          obtain ⟨b, rfl, hb2⟩ := dp_pair hd2
          have hpm := List.mem_of_getElem? e
          have s1 := same_new (o := .tup [.int (i : Nat), .ref b]) hT
          have s2 := hs.trans s1
          have hD2 := s1 _ _ hD
          have elen : (rowK (shRow (shr ps : Int) 0 (ps.take i))).length < sizeLine := by
            rw [rowK_length]
            have h1 := shRow_len (shr ps : Int) (ps.take i) 0
            have h2 : (ps.take i).length ≤ ps.length := by rw [List.length_take]; omega
            exact small1000 (by omega)
          have hil : i < ps.length := (List.getElem?_eq_some_iff.1 e).1
          have el : (ps.take i).length = i := by rw [List.length_take]; omega
          have enew : i ∉ keys (shRow (shr ps : Int) 0 (ps.take i)) := fun h => by
            have := shRow_keys _ _ _ _ h
            omega
          refine ⟨T, _, rfl, SqT.of upd_same, rfl, _, _, rfl, _, _, rfl, ⟨b, _, rfl, same_tup s2 hb2, rfl, _, _, rfl, _, _, rfl, rfl, ?_⟩⟩
          refine ⟨rfl, rfl, _, rfl, rfl, _, rfl, ?_⟩
          rw [take_snoc' ps i p e, shRow_snoc, el, Nat.zero_add]
          by_cases hv : p.1 = 0
          · have ed : (!decide (V.int p.1 = V.int 0)) = false := by simp [hv]
            rw [ed, if_neg (by simpa using hv), List.append_nil]
            exact iteF ⟨s2, hD2⟩
          · have ed : (!decide (V.int p.1 = V.int 0)) = true := by simpa using hv
            rw [ed, if_pos hv]
            have hq := (hb p hpm)
            have hdiv : CDivW ((shr ps : Nat) : Int) p.2 := wide_div hq.1 hq.2.1 (by decide) (by decide)
            have hle : (((shr ps : Nat) : Int) / p.2).natAbs < 2 ^ 60 := Nat.lt_of_le_of_lt (Int.natAbs_ediv_le_natAbs _ _) (by rw [natCast_natAbs]; exact hS)
            refine iteT ⟨_, rfl, _, rfl, _, rfl, _, rfl, _, _, rfl, rfl, hdiv, _, _, rfl, rfl, wide_mul hq.2.2 hle (by decide) (by decide) (by decide), _, Sum.inl (i : Int), rfl, hD2, elen, ?_⟩
            rw [putK_new enew]
            exact ⟨fun c o hc => by rw [upd_ne (by intro z; rw [z, nD] at hc; cases hc)]; exact s2 c o hc, upd_same⟩
      · rintro H1 ⟨hs, hD⟩
        rw [hlen, List.take_length] at hD
        refine ⟨_, rfl, by show 2 ≤ sizeLine; decide, fun t nt => ?_⟩
        have s1 := same_new (o := .tup [.ref D, .int (shr ps : Int)]) nt
        exact k _ t D (hs.trans s1) (hs.free nt) nD upd_same (s1 _ _ hD)
end
end L2.EH
end S_T4
section S_T5
set_option exponentiation.threshold 20000
set_option maxRecDepth 100000
set_option maxHeartbeats 4000000
namespace L2.EH
open PySem PySem.Spec PyProof.Rows StX
open L2.Halves (has keys)
/-! ### plain rules as they are kept -/
structure PlainC (K : PySem.W.Frag) (C : Addr) : Prop where
  cl : Cls K C
  nh : NoAttr K C "halves"
  ns : NoAttr K C "starts"
  na : NoAttr K C "answer"
  mo : PySem.W.mroIn K C (.type "object") = some true
  fe : PySem.W.findIn K (.ref C) "__eq__" = some (some (.builtin "object.__eq__"))
/-- a class that is made by its __init__ -/
structure Made (P : Program) (w : World) (K : PySem.W.Frag) (mg : Str → Option Value) (base : Heap) (k : Nat) (x : Str) (C f : Addr) (fd : FuncData) (ps : List Str) (sp : Sp) : Prop where
  M : Mk K C f
  ok : FnOk P w K mg base CX0 k f fd ps sp
  m : mg x = some (.ref C)
  b : Binds K fd ps []
def ruleF (h s t : Addr) : List (Str × V) := putF "answer" (.ref t) (putF "starts" (.ref s) (putF "halves" (.ref h) []))
theorem ruleF_h (h s t : Addr) : (ruleF h s t).lookup ("halves" : Str) = some (V.ref h) := by
  unfold ruleF
  rw [lookup_putF, if_neg (by decide +kernel), lookup_putF, if_neg (by decide +kernel), lookup_putF, if_pos rfl]
theorem ruleF_s (h s t : Addr) : (ruleF h s t).lookup ("starts" : Str) = some (V.ref s) := by
  unfold ruleF
  rw [lookup_putF, if_neg (by decide +kernel), lookup_putF, if_pos rfl]
theorem ruleF_a (h s t : Addr) : (ruleF h s t).lookup ("answer" : Str) = some (V.ref t) := by
  unfold ruleF
  rw [lookup_putF, if_pos rfl]
theorem ruleF_len (h s t : Addr) : (ruleF h s t).length < 1000 := by
  have h1 := length_putF "halves" (V.ref h) []
  have h2 := length_putF "starts" (V.ref s) (putF "halves" (V.ref h) [])
  have h3 := length_putF "answer" (V.ref t) (putF "starts" (V.ref s) (putF "halves" (V.ref h) []))
  unfold ruleF
  simp only [List.length_nil] at h1
  omega
/-- a shared row -/
def ShrAt (K : PySem.W.Frag) (H : Hp) (v : V) (ps : List (Int × Int)) : Prop := ∃ t d : Addr, v = .ref t ∧ SqT K H t [.ref d, .int (shr ps : Int)] ∧ H d = some (.dK (rowK (shRow (shr ps : Int) 0 ps)))
theorem ShrAt.same {K : PySem.W.Frag} {H H' : Hp} {v : V} {ps : List (Int × Int)} (s : Same H H') (h : ShrAt K H v ps) : ShrAt K H' v ps := by
  obtain ⟨t, d, e, h1, h2⟩ := h
  exact ⟨t, d, e, same_tup s h1, s _ _ h2⟩
def ShrsAt (K : PySem.W.Frag) (H : Hp) (a : Addr) (M : List (List (Int × Int))) : Prop := ∃ xs : List V, SqL K H a xs ∧ xs.length = M.length ∧ ∀ (i : Nat) (x : V) (r : List (Int × Int)), xs[i]? = some x → M[i]? = some r → ShrAt K H x r
theorem ShrsAt.same {K : PySem.W.Frag} {H H' : Hp} {a : Addr} {M : List (List (Int × Int))} (s : Same H H') (h : ShrsAt K H a M) : ShrsAt K H' a M := by
  obtain ⟨xs, h1, h2, h3⟩ := h
  exact ⟨xs, s.seq h1, h2, fun i x r e1 e2 => (h3 i x r e1 e2).same s⟩
def matD (M : List (List (Int × Int))) : PyData := .tuple (M.map prowD)
structure Plain where
  even : List (List (Int × Int))
  odd : List (List (Int × Int))
  firsts : List Int
  told : List (Int × Int)
def plainD (R : Plain) : PyData := .tuple [matD R.even, matD R.odd, rowD R.firsts, prowD R.told]
theorem matD_tup (M : List (List (Int × Int))) : tupOnly (matD M) = true := tupsOnly_map prowD prowD_tup M
theorem plainD_tup (R : Plain) : tupOnly (plainD R) = true := by
  show tupsOnly _ = true
  simp [tupsOnly, matD_tup, rowD_tup, prowD_tup]
structure RuleAt (K : PySem.W.Frag) (C : Addr) (H : Hp) (a : Addr) (R : Plain) : Prop where
  ex : ∃ dx h s t e o, H a = some (.ins C dx (ruleF h s t)) ∧ SqT K H h [.ref e, .ref o] ∧ ShrsAt K H e R.even ∧ ShrsAt K H o R.odd ∧ SqT K H s (R.firsts.map V.int) ∧ ShrAt K H (.ref t) R.told
theorem RuleAt.same {K : PySem.W.Frag} {C : Addr} {H H' : Hp} {a : Addr} {R : Plain} (q : Same H H') (h : RuleAt K C H a R) : RuleAt K C H' a R := by
  obtain ⟨dx, h, s, t, e, o, h1, h2, h3, h4, h5, h6⟩ := h.ex
  exact ⟨dx, h, s, t, e, o, q _ _ h1, same_tup q h2, h3.same q, h4.same q, same_tup q h5, h6.same q⟩
/-- the same, its lists new -/
def RuleNew (K : PySem.W.Frag) (C : Addr) (H0 H : Hp) (a : Addr) (R : Plain) : Prop := ∃ dx h s t e o, H a = some (.ins C dx (ruleF h s t)) ∧ SqT K H h [.ref e, .ref o] ∧ ShrsAt K H e R.even ∧ ShrsAt K H o R.odd ∧ SqT K H s (R.firsts.map V.int) ∧ ShrAt K H (.ref t) R.told ∧ H0 e = none ∧ H0 o = none
theorem RuleNew.at_ {K : PySem.W.Frag} {C : Addr} {H0 H : Hp} {a : Addr} {R : Plain} (h : RuleNew K C H0 H a R) : RuleAt K C H a R := by
  obtain ⟨dx, h, s, t, e, o, h1, h2, h3, h4, h5, h6, _⟩ := h
  exact ⟨dx, h, s, t, e, o, h1, h2, h3, h4, h5, h6⟩
theorem RuleNew.same {K : PySem.W.Frag} {C : Addr} {H0 H H' : Hp} {a : Addr} {R : Plain} (q : Same H H') (h : RuleNew K C H0 H a R) : RuleNew K C H0 H' a R := by
  obtain ⟨dx, h, s, t, e, o, h1, h2, h3, h4, h5, h6, h7⟩ := h
  exact ⟨dx, h, s, t, e, o, q _ _ h1, same_tup q h2, h3.same q, h4.same q, same_tup q h5, h6.same q, h7⟩
theorem RuleNew.old {K : PySem.W.Frag} {C : Addr} {H0 H1 H : Hp} {a : Addr} {R : Plain} (q : Same H0 H1) (h : RuleNew K C H1 H a R) : RuleNew K C H0 H a R := by
  obtain ⟨dx, h, s, t, e, o, h1, h2, h3, h4, h5, h6, h7, h8⟩ := h
  exact ⟨dx, h, s, t, e, o, h1, h2, h3, h4, h5, h6, q.free h7, q.free h8⟩
theorem ShrAt.put {K : PySem.W.Frag} {H : Hp} {D : Addr} {l : List V} {q : HO} {v : V} {ps : List (Int × Int)} (hD : H D = some (.lst l)) (h : ShrAt K H v ps) : ShrAt K (upd H D q) v ps := by
  obtain ⟨t, d, e, h1, h2⟩ := h
  exact ⟨t, d, e, tup_keepT (keepT_upd hD rfl) h1, by rw [upd_ne (by intro z; rw [z, hD] at h2; cases h2)]; exact h2⟩
theorem ShrsAt.put {K : PySem.W.Frag} {H : Hp} {D a : Addr} {l : List V} {q : HO} {M : List (List (Int × Int))} (hD : H D = some (.lst l)) (hne : a ≠ D) (h : ShrsAt K H a M) : ShrsAt K (upd H D q) a M := by
  obtain ⟨xs, h1, h2, h3⟩ := h
  refine ⟨xs, ?_, h2, fun i x r e1 e2 => (h3 i x r e1 e2).put hD⟩
  rcases h1 with (h | ⟨o, h⟩) | h
  · exact .inl (.inl (by rw [upd_ne hne]; exact h))
  · exact .inl (.inr ⟨o, by rw [upd_ne hne]; exact h⟩)
  · exact .inr h
/-- a store to a list that was there before -/
theorem RuleNew.put {K : PySem.W.Frag} {C : Addr} {H0 H : Hp} {D a : Addr} {l : List V} {q : HO} {R : Plain} (hD0 : H0 D ≠ none) (hD : H D = some (.lst l)) (h : RuleNew K C H0 H a R) : RuleNew K C H0 (upd H D q) a R := by
  obtain ⟨dx, h, s, t, e, o, h1, h2, h3, h4, h5, h6, h7, h8⟩ := h
  have hk := keepT_upd (o := q) hD rfl
  exact ⟨dx, h, s, t, e, o, by rw [upd_ne (by intro z; rw [z, hD] at h1; cases h1)]; exact h1, tup_keepT hk h2, h3.put hD (fun z => hD0 (by rw [← z]; exact h7)), h4.put hD (fun z => hD0 (by rw [← z]; exact h8)), tup_keepT hk h5, h6.put hD, h7, h8⟩
def spRuleInit (C : Addr) : Sp := fun vs H Q _ => ∃ (p dx h s t : Addr), vs = [.ref p, .ref h, .ref s, .ref t] ∧ H p = some (.ins C dx []) ∧
  ∀ (H' : Hp), H' p = some (.ins C dx (ruleF h s t)) → (∀ b q, H b = some q → b ≠ p → H' b = some q) → Q .non H'
theorem scRuleInit : FnScope ["self", "halves", "starts", "answer"] ["self", "halves", "starts", "answer"] (defScope sRuleInit) := ⟨rfl, rfl, rfl, by decide +kernel, rfl, by decide +kernel, by decide +kernel⟩
/-! ### which things are plain rules -/
def Th.irow? (n : Int) : Th → Option (List Int)
  | .tup xs => if (xs.length : Int) = n then ints? xs else none
  | _ => none
theorem irow?_some {n : Int} {d : Th} {ns : List Int} (h : d.irow? n = some ns) : d = rowT ns ∧ (ns.length : Int) = n := by
  unfold Th.irow? at h
  split at h
  · split at h
    · have e := ints?_some h
      refine ⟨by rw [e]; rfl, ?_⟩
      have : ns.length = (ns.map intT).length := by simp
      rw [this, ← e]; assumption
    · cases h
  · cases h
theorem irow?_of {n : Int} {ns : List Int} (hn : (ns.length : Int) = n) : (rowT ns).irow? n = some ns := by
  show (if ((ns.map intT).length : Int) = n then ints? (ns.map intT) else none) = _
  rw [List.length_map, if_pos hn, ints?_of]
def fitsB (M : List (List (Int × Int))) (fs : List Int) : Bool := (List.zip M fs).all fun p => decide (rowTimes (shRow (shr p.1 : Int) 0 p.1) fs = p.2 * (shr p.1 : Int))
def shapeOf (es : List Th) (o f t : Th) : Option Plain := match (Th.tup es).square? es.length, o.square? es.length, f.irow? es.length, t.frow? es.length with
  | some E, some O, some F, some T => some ⟨E, O, F, T⟩
  | _, _, _, _ => none
def Th.shape? : Th → Option Plain
  | .tup [.tup es, o, f, t] => if es.length ≤ 100 then shapeOf es o f t else none
  | _ => none
def Th.plain? (d : Th) : Option Plain := match d.shape? with
  | some R => if fitsB R.even R.firsts = true then some R else none
  | none => none
theorem plain?_none {d : Th} (h : d.shape? = none) : d.plain? = none := by unfold Th.plain?; rw [h]
theorem shapeOf_none {es : List Th} {o f t : Th} (h : (Th.tup es).square? es.length = none ∨ o.square? es.length = none ∨ f.irow? es.length = none ∨ t.frow? es.length = none) : shapeOf es o f t = none := by
  unfold shapeOf
  split
  · rename_i h1 h2 h3 h4
    rcases h with h | h | h | h
    · rw [h1] at h; cases h
    · rw [h2] at h; cases h
    · rw [h3] at h; cases h
    · rw [h4] at h; cases h
  · rfl
/-- bounds of a row: its bottoms, what they share, its tops -/
def RowB (ps : List (Int × Int)) : Prop := ps.length ≤ 900 ∧ (∀ i, shr (ps.take i) < 2 ^ 60) ∧ ∀ p, p ∈ ps → p.2.natAbs < 2 ^ 60 ∧ p.1.natAbs < 2 ^ 1000
structure PlainB (R : Plain) : Prop where
  el : R.even.length ≤ 900
  ol : R.odd.length ≤ 900
  fl : R.firsts.length ≤ 900
  e : ∀ r, r ∈ R.even → RowB r
  o : ∀ r, r ∈ R.odd → RowB r
  t : RowB R.told
  f : ∀ z, z ∈ R.firsts → z.natAbs < 2 ^ 1000
def spPlainIn (K : PySem.W.Frag) (C : Addr) : Sp := fun vs H Q _ => ∃ (v : V) (d : Th), vs = [v] ∧ Td K H v d ∧ d.fits ∧ (∀ R, d.shape? = some R → PlainB R) ∧ (∀ R, d.plain? = some R → ∀ H' p, Same H H' → H p = none → RuleNew K C H H' p R → Q (.ref p) H') ∧ (d.plain? = none → ∀ H', Same H H' → Q .non H')
theorem scPlainIn : FnScope ["value", "even", "odd", "firsts", "told", "many", "first", "evens", "tops", "bottom", "row"] ["value"] (defScope sPlainIn) := ⟨rfl, rfl, rfl, by decide +kernel, rfl, by decide +kernel, by decide +kernel⟩
theorem frac_pos {ps : List (Int × Int)} (h : ps.all fracOk = true) : ∀ p, p ∈ ps → 0 < p.2 := fun p hp => by
  have h2 := List.all_eq_true.mp h p hp
  unfold fracOk at h2
  have := of_decide_eq_true (Bool.and_eq_true_iff.mp h2).1
  omega
section
variable {P : Program} {w : World} {K : PySem.W.Frag} {mg : Str → Option Value} {base : Heap}
theorem ok_ruleInit {C f : Addr} {fd : FuncData} (F : Fun K "__init__" "PlainRule.__init__" sRuleInit f fd) (T : PlainC K C) : FnOk P w K mg base CX0 1 f fd ["self", "halves", "starts", "answer"] (spRuleInit C) := by
  refine F.ok scRuleInit (fun vs H Q E h => ?_) (fun cdv A outer s H vs Q E hr h => ?_)
  · obtain ⟨p, dx, h, s, t, rfl, _⟩ := h
    rfl
  · obtain ⟨p, dx, h, st, t, rfl, hp, k⟩ := h
    refine ⟨_, pss_cons (ps_fld (pv 0) (pv 1) rfl) (pss_cons (ps_fld (pv 0) (pv 2) rfl) (pss_one (ps_fld (pv 0) (pv 3) rfl))), ?_⟩
    have l1 := length_putF "halves" (V.ref h) []
    have l2 := length_putF "starts" (V.ref st) (putF "halves" (V.ref h) [])
    simp only [List.length_nil] at l1
    refine ⟨_, rfl, _, rfl, p, C, dx, [], rfl, hp, T.cl, T.nh, (by show 0 < 1000; decide), ?_⟩
    refine ⟨_, rfl, _, rfl, p, C, dx, _, rfl, upd_same, T.cl, T.ns, (by omega), ?_⟩
    refine ⟨_, rfl, _, rfl, p, C, dx, _, rfl, upd_same, T.cl, T.na, (by omega), ?_⟩
    refine k _ upd_same fun b q hb hbp => ?_
    rw [upd_ne hbp, upd_ne hbp, upd_ne hbp]; exact hb
end
end L2.EH
end S_T5
section S_Z5
set_option maxRecDepth 100000
set_option maxHeartbeats 4000000
namespace L2.EH
open PySem PySem.Spec PyProof.Rows StX
/-! ### over a list or a tuple; comprehensions within comprehensions -/
def ItSq (t : Bool) (K : PySem.W.Frag) (a : Addr) : It := match t with
  | true => Itt K a
  | false => Itl K a
def iSeq (K : PySem.W.Frag) (tl : TE) : TI := fun σ H R => tl σ H fun x H1 => ∃ (a : Addr) (t : Bool), x = .ref a ∧ (∃ xs, SqK t K H1 a xs) ∧ R (ItSq t K a) H1
section
variable {X : Cx} {tg : Expr}
theorem pi_seq {l : Expr} {tl : TE} (hl : PE X l tl) : PI X tg l (iSeq X.K tl) := by
  refine ⟨fun pins s σ H R I h => ?_⟩
  refine thn (hl.run pins s σ H _ I h) fun v s1 ⟨x, H1, I1, r1, q1⟩ => ?_
  obtain ⟨a, t, e, ⟨xs, hq⟩, q⟩ := q1
  subst e
  cases r1
  cases t with
  | false =>
    obtain ⟨its, rv, p, hz⟩ := I1.list hq
    refine wpAny_pyIter_list p.isList ?_
    refine ⟨s1.heap.objs.size, [s1.heap.objs.size], _, _, H1, rfl, I1.kept (t' := s1.toks) fun b o e => Heap.get?_push_of_some _ e, turn_list a _, ⟨_, Heap.get?_push_size _ rfl, rfl, rfl⟩, fun b hb => ?_, q⟩
    have e : b = s1.heap.objs.size := by simpa using hb
    subst e
    exact I1.fpOk (Nat.le_refl _) (I1.hok.fresh (Nat.le_refl _))
  | true =>
    obtain ⟨its, rv, p, hz⟩ := I1.tuple hq
    refine wpAny_pyIter_tuple (show s1.heap.IsTuple a its.toArray from p) ?_
    refine ⟨s1.heap.objs.size, [s1.heap.objs.size], _, _, H1, rfl, I1.kept (t' := s1.toks) fun b o e => Heap.get?_push_of_some _ e, turn_tuple a _, ⟨_, Heap.get?_push_size _ rfl, rfl, rfl⟩, fun b hb => ?_, q⟩
    have e : b = s1.heap.objs.size := by simpa using hb
    subst e
    exact I1.fpOk (Nat.le_refl _) (I1.hok.fresh (Nat.le_refl _))
end
/-! the same rules with the written part by its own name: for elements of comprehensions -/
section
variable {X : Cx} {K : PySem.W.Frag} {tg : Expr}
def rLenK (K : PySem.W.Frag) : List V → Hp → VK → Prop := fun xs H Q => ∃ x n, xs = [x] ∧ LenV K x H n ∧ Q (V.int (n : Nat)) H
theorem call_lenK (e : X.K = K) : CallR X (.builtin "len") (rLenK K) := by subst e; exact call_len
theorem cr_sumK (e : X.K = K) (hc : X.calm = true) : CallR X (.builtin "sum") (rSum K) := by subst e; exact cr_sum hc
theorem cr_allK (e : X.K = K) (hc : X.calm = true) : CallR X (.builtin "all") (rAll K) := by subst e; exact cr_all hc
def rTupOf (K : PySem.W.Frag) : List V → Hp → VK → Prop := fun xs H Q => ∃ p ys, xs = [.ref p] ∧ ((SqL K H p ys ∧ ∀ l, H l = none → Q (.ref l) (upd H l (.tup ys))) ∨ (SqT K H p ys ∧ Q (.ref p) H))
theorem call_tupleK (e : X.K = K) : CallR X (.type "tuple") (rTupOf K) := by subst e; exact call_tuple_of
theorem ix_seqK (e : X.K = K) : IxR X (rIx K) := by subst e; exact ix_seq
theorem op_inK (e : X.K = K) : OpR X (compareOp .In) (rIn K false) := by subst e; exact op_in_seq
theorem pi_seqK (e : X.K = K) {l : Expr} {tl : TE} (hl : PE X l tl) : PI X tg l (iSeq K tl) := by subst e; exact pi_seq hl
theorem pi_tupK (e : X.K = K) {l : Expr} {tl : TE} (hl : PE X l tl) : PI X tg l (iTup K tl) := by subst e; exact pi_tup hl
theorem pi_listK (e : X.K = K) {l : Expr} {tl : TE} (hl : PE X l tl) : PI X tg l (iList K tl) := by subst e; exact pi_list hl
end
theorem walk_sq {t : Bool} {K : PySem.W.Frag} {a : Addr} {xs : List V} : Walk (ItSq t K a) xs.length (fun H => SqK t K H a xs) (fun i H x H' => H' = H ∧ xs[i]? = some x) := by
  cases t
  · exact walk_list
  · exact walk_tup
def lcScope : Expr → Scope
  | .ListComp _ _ s _ => s
  | _ => { kind := .function, names := [], isGenerator := false, isCoroutine := false }
def retE : Stmt → Expr
  | .Return (some e) _ => e
  | _ => .Constant .none 0 ⟨0, 0, 0, 0⟩
def bodyAt (s : Stmt) (i : Nat) : Stmt := (defBody s).getD i (.Pass ⟨0, 0, 0, 0⟩)
def scIn (sc1 sc0 : Scope) : Scope := relabel sc1 (envOfC "" sc0 0 0 .none)
theorem SqK.ofL {K : PySem.W.Frag} {H : Hp} {a : Addr} {xs : List V} (h : H a = some (.lst xs)) : SqK false K H a xs := SqL.of h
theorem SqK.ofT {K : PySem.W.Frag} {H : Hp} {a : Addr} {xs : List V} (h : SqT K H a xs) : SqK true K H a xs := h
theorem lenV_sq {t : Bool} {K : PySem.W.Frag} {H : Hp} {a : Addr} {xs : List V} (h : SqK t K H a xs) : LenV K (.ref a) H xs.length := by
  cases t
  · exact .inl ⟨_, h, rfl⟩
  · exact .inr ⟨_, h, rfl⟩
theorem SqK.ix {t : Bool} {K : PySem.W.Frag} {H : Hp} {a : Addr} {xs : List V} (h : SqK t K H a xs) {i : Int} {v : V} (e : atI xs i = some v) {Q : VK} (q : Q v H) : rIx K (.ref a) (.int i) H Q := by
  cases t
  · exact .inl ⟨a, xs, i, v, rfl, rfl, h, e, q⟩
  · exact .inr (.inl ⟨a, xs, i, v, rfl, rfl, h, e, q⟩)
end L2.EH
end S_Z5
section S_Z12
set_option maxRecDepth 100000
set_option maxHeartbeats 4000000
/-! slices and sums of tuples, whichever object comes out -/
namespace L2.EH
open PySem PySem.Spec PyProof.Rows L2
section
variable {X : Cx}
def rSlN (K : PySem.W.Frag) : V → Option Int → Option Int → Hp → VK → Prop := fun x lo hi H Q => ∃ a xs, x = .ref a ∧ SqT K H a xs ∧ ∀ p H', Same H H' → SqT K H' p (cutV xs lo hi) → Q (.ref p) H'
theorem cutV_whole {xs : List V} {lo hi : Option Int} (h : HT.sIx xs.length 0 lo = 0 ∧ HT.sIx xs.length xs.length hi = xs.length) : cutV xs lo hi = xs := by
  unfold cutV
  rw [h.1, h.2]; simp
theorem sl_tupN : SlR X (rSlN X.K) := by
  intro pins s σ H x v vl vu lo hi sl Q I rx hs pl pu h
  obtain ⟨a, xs, rfl, hx, q⟩ := h
  refine sl_tupA pins s σ H _ v vl vu lo hi sl Q I rx hs pl pu ⟨a, xs, rfl, hx, fun hw => q a H (Same.refl H) (by rw [cutV_whole hw]; exact hx), fun _ p np => q p _ (same_new np) (SqT.of upd_same)⟩
def rCatN (K : PySem.W.Frag) : R2 := fun x y H Q => ∃ a b xs ys, x = .ref a ∧ y = .ref b ∧ SqT K H a xs ∧ SqT K H b ys ∧ xs.length + ys.length ≤ sizeLine ∧ ∀ p H', Same H H' → SqT K H' p (xs ++ ys) → Q (.ref p) H'
theorem op_catN : OpR X (binaryOp .Add) (rCatN X.K) := by
  intro pins s σ H x y v u Q I rx ry h
  obtain ⟨a, b, xs, ys, rfl, rfl, hx, hy, hl, q⟩ := h
  refine op_catA pins s σ H _ _ v u Q I rx ry ⟨a, b, xs, ys, rfl, rfl, hx, hy, hl, fun e => q b H (Same.refl H) (by rw [e]; exact hy), fun _ e => q a H (Same.refl H) (by rw [e, List.append_nil]; exact hx), fun _ _ p np => q p _ (same_new np) (SqT.of upd_same)⟩
theorem cut_take {xs : List V} {k : Nat} : cutV xs none (some (k : Int)) = xs.take k := by
  unfold cutV
  rw [HT.sIx_none, HT.sIx_nat, List.drop_zero, Nat.sub_zero]
  by_cases h : k ≤ xs.length
  · rw [Nat.min_eq_left h]
  · rw [Nat.min_eq_right (by omega), List.take_of_length_le (Nat.le_refl _), List.take_of_length_le (by omega)]
theorem cut_drop {xs : List V} {k : Nat} : cutV xs (some (k : Int)) none = xs.drop k := by
  unfold cutV
  rw [HT.sIx_none, HT.sIx_nat]
  by_cases h : k ≤ xs.length
  · rw [Nat.min_eq_left h, List.take_of_length_le (by simp)]
  · rw [Nat.min_eq_right (by omega), List.drop_eq_nil_of_le (Nat.le_refl _), List.drop_eq_nil_of_le (by omega)]; simp
end
end L2.EH
end S_Z12
section S_L0
set_option maxRecDepth 100000
set_option maxHeartbeats 4000000
namespace L2.EH
open PySem PySem.Spec PyProof.Rows StX
def dotp (a b : List Int) : Int := (List.zipWith (· * ·) a b).sum
def rowsD (rs : List (List Int)) : PyData := .tuple (rs.map rowD)
theorem rowsD_tup (rs : List (List Int)) : tupOnly (rowsD rs) = true := tupsOnly_map rowD rowD_tup rs
def asgE : Stmt → Expr
  | .Assign _ v _ => v
  | _ => .Constant .none 0 ⟨0, 0, 0, 0⟩
/-- the binary digits from the highest one on -/
def bdig (n : Nat) : List Int := if h : n = 0 then [] else bdig (n / 2) ++ [((n % 2 : Nat) : Int)]
termination_by n
decreasing_by omega
theorem bdig_zero : bdig 0 = [] := by rw [bdig]; rfl
theorem bdig_pos {n : Nat} (h : 0 < n) : bdig n = bdig (n / 2) ++ [((n % 2 : Nat) : Int)] := by rw [bdig, dif_neg (by omega)]
def All01 (ds : List Int) : Prop := ∀ d, d ∈ ds → d = 0 ∨ d = 1
theorem bdig_01 : ∀ n : Nat, All01 (bdig n) := fun n => by
  induction n using Nat.strongRecOn with
  | ind n ih =>
    intro d hd
    rcases Nat.eq_zero_or_pos n with e | e
    · rw [e, bdig_zero] at hd; cases hd
    · rw [bdig_pos e] at hd
      rcases List.mem_append.1 hd with h | h
      · exact ih (n / 2) (by omega) d h
      · rw [List.mem_singleton.1 h]; omega
theorem bdig_len : ∀ (k n : Nat), n < 2 ^ k → (bdig n).length ≤ k
  | 0, n, h => by
    have : n = 0 := by simpa using h
    rw [this, bdig_zero]; simp
  | k + 1, n, h => by
    rcases Nat.eq_zero_or_pos n with e | e
    · rw [e, bdig_zero]; simp
    · rw [bdig_pos e, List.length_append]
      have := bdig_len k (n / 2) (by rw [Nat.pow_succ] at h; omega)
      simp; omega
end L2.EH
end S_L0
section S_L1
set_option maxRecDepth 100000
set_option maxHeartbeats 4000000
namespace L2.EH
open PySem PySem.Spec PyProof.Rows StX
abbrev PM : Int := 2147483629
def spCell (K : PySem.W.Frag) : Sp := fun vs H Q _ => ∃ (a : Addr) (ns : List Int) (k : Nat), vs = [.ref a, .int (k : Int)] ∧ SqL K H a (ns.map V.int) ∧ ns.length ≤ 63 ∧ k ≤ 100 ∧ ∀ (z : Int) H', Same H H' → Q (.int z) H'
def spSource : Sp := fun vs H Q _ => ∃ (z : Int), vs = [.int z] ∧ ∀ (p : Addr) (m f : Int), H p = none → 0 ≤ m → m < PM → 0 ≤ f → Q (.ref p) (upd H p (.lst [.int m, .int f, .int 0]))
/-! ### sources -/
def Kept (p : Addr) (H H' : Hp) : Prop := ∀ b o, b ≠ p → H b = some o → H' b = some o
theorem Kept.refl (p : Addr) (H : Hp) : Kept p H H := fun _ _ _ h => h
theorem Kept.trans {p : Addr} {H H' H'' : Hp} (a : Kept p H H') (b : Kept p H' H'') : Kept p H H'' := fun x o n h => b x o n (a x o n h)
theorem Same.kept {p : Addr} {H H' : Hp} (s : Same H H') : Kept p H H' := fun x o _ h => s x o h
theorem kept_upd (p : Addr) (H : Hp) (o : HO) : Kept p H (upd H p o) := fun x q n h => by rw [upd_ne n]; exact h
def Purse (H : Hp) (p : Addr) (hi : Nat) : Prop := ∃ m f c : Int, H p = some (.lst [.int m, .int f, .int c]) ∧ 0 ≤ m ∧ m < PM ∧ 0 ≤ f ∧ 0 ≤ c ∧ c ≤ (hi : Int)
theorem Purse.same {H H' : Hp} {p : Addr} {hi : Nat} (h : Purse H p hi) (s : Same H H') : Purse H' p hi := by
  obtain ⟨m, f, c, h1, h2⟩ := h
  exact ⟨m, f, c, s _ _ h1, h2⟩
theorem Purse.wide {H : Hp} {p : Addr} {hi hi' : Nat} (h : Purse H p hi) (b : hi ≤ hi') : Purse H p hi' := by
  obtain ⟨m, f, c, h1, h2, h3, h4, h5, h6⟩ := h
  exact ⟨m, f, c, h1, h2, h3, h4, h5, by omega⟩
theorem Purse.upd {H : Hp} {p b : Addr} {hi : Nat} {o : HO} (h : Purse H p hi) (n : b ≠ p) : Purse (upd H b o) p hi := by
  obtain ⟨m, f, c, h1, h2⟩ := h
  exact ⟨m, f, c, by rw [upd_ne (Ne.symm n)]; exact h1, h2⟩
theorem Purse.ne {H : Hp} {p t : Addr} {hi : Nat} {o : HO} (h : Purse H p hi) (ht : H t = some o) (hl : ∀ a b c, o ≠ .lst [.int a, .int b, .int c]) : t ≠ p := by
  rintro rfl
  obtain ⟨m, f, c, h1, _⟩ := h
  rw [h1] at ht
  injection ht with ht
  exact hl _ _ _ ht.symm
theorem Kept.tup {p t : Addr} {H H' : Hp} {hi : Nat} {xs : List V} (k : Kept p H H') (h : Purse H p hi) (ht : H t = some (.tup xs)) : H' t = some (.tup xs) := k _ _ (h.ne ht (fun _ _ _ e => by cases e)) ht
theorem Kept.keepT {p : Addr} {H H' : Hp} {hi : Nat} (k : Kept p H H') (h : Purse H p hi) : KeepT H H' := fun b o hb ho => k b o (h.ne hb (fun _ _ _ e => by rw [e] at ho; cases ho)) hb
def spDraw : Sp := fun vs H Q _ => ∃ (p : Addr) (hi : Nat) (n : Int), vs = [.ref p, .int n] ∧ Purse H p hi ∧ hi ≤ 100000 ∧ 0 < n ∧ n ≤ 10 ^ 10 ∧ ∀ (d : Int) H', 0 ≤ d → d < n → Kept p H H' → Purse H' p (hi + 1) → Q (.int d) H'
section
variable {P : Program} {w : World} {K : PySem.W.Frag} {mg : Str → Option Value} {base : Heap}
theorem scCell : FnScope ["_law_cells", "_law_spot", "_law_state", "_law_cell_here"] ["_law_cells", "_law_spot"] (defScope sCell) := ⟨rfl, rfl, rfl, by decide +kernel, rfl, by decide +kernel, by decide +kernel⟩
theorem scSource : FnScope ["_law_cell_here"] ["_law_cell_here"] (defScope sSource) := ⟨rfl, rfl, rfl, by decide +kernel, rfl, by decide +kernel, by decide +kernel⟩
theorem scDraw : FnScope ["_law_source_here", "_law_many", "_law_digit", "_law_state", "_law_mixed"] ["_law_source_here", "_law_many"] (defScope sDraw) := ⟨rfl, rfl, rfl, by decide +kernel, rfl, by decide +kernel, by decide +kernel⟩
theorem modPM (x : Int) : 0 ≤ x % 2147483629 ∧ x % 2147483629 < PM := ⟨Int.emod_nonneg _ (by decide), Int.emod_lt_of_pos _ (by decide)⟩
theorem ok_source {f : Addr} {fd : FuncData} (F : Fun K "_law_source" "_law_source" sSource f fd) (B : BN mg) : FnOk P w K mg base CX0 1 f fd ["_law_cell_here"] spSource := by
  refine F.ok scSource (fun vs H Q E h => ?_) (fun cdv A outer s H vs Q E hr h => ?_)
  · obtain ⟨z, rfl, _⟩ := h
    rfl
  · obtain ⟨z, rfl, k⟩ := h
    refine ⟨_, pss_one (ps_ret (pe_lst (pa_cons (pe_op op_mod (pe_callTy call_int1 (by rfl) B.int (by decide +kernel) (pa_cons (pv 0) pa_nil)) pe_int)
      (pa_cons (pe_ifExp (PW.pt (pw_or (pt_cmpR op_lt (pv 0) pe_int (nomark _)) (pw_or1 (pt_cmpR op_ge (pv 0) (pe_op op_pow pe_int pe_int) (nomark _))))) (pe_callB call_abs (by rfl) B.abs (by decide +kernel) (pa_cons (pv 0) pa_nil)) pe_int)
      (pa_cons pe_int pa_nil))))), ?_⟩
    refine ⟨_, rfl, .inl ⟨_, rfl, _, _, rfl, rfl, (by show (0 : Int) < 2147483629; decide), ?_⟩⟩
    refine ⟨_, rfl, _, _, rfl, rfl, _, rfl, ite2 (fun h => ?_) fun h => ?_⟩
    · refine iteT ⟨_, rfl, _, rfl, by show 3 ≤ sizeLine; decide, fun p np => ?_⟩
      exact k p _ _ np (modPM z).1 (modPM z).2 (by split <;> omega)
    · refine ⟨_, rfl, _, _, rfl, rfl, ⟨by decide, by decide, by decide⟩, _, _, rfl, rfl, _, rfl, ite2 (fun h' => ?_) fun h' => ?_⟩
      · exact ⟨_, rfl, _, rfl, by show 3 ≤ sizeLine; decide, fun p np => k p _ _ np (modPM z).1 (modPM z).2 (by split <;> omega)⟩
      · exact ⟨by show 3 ≤ sizeLine; decide, fun p np => k p _ _ np (modPM z).1 (modPM z).2 (by decide)⟩
theorem ok_draw {f : Addr} {fd : FuncData} (F : Fun K "_law_draw" "_law_draw" sDraw f fd) (B : BN mg) : FnOk P w K mg base CX0 1 f fd ["_law_source_here", "_law_many"] spDraw := by
  refine F.ok scDraw (fun vs H Q E h => ?_) (fun cdv A outer s H vs Q E hr h => ?_)
  · obtain ⟨p, hi, n, rfl, _⟩ := h
    rfl
  · obtain ⟨p, hi, n, rfl, ⟨m, f, c, hp, hm, hm2, hf, hc, hc2⟩, hhi, hn, hn2, k⟩ := h
    have nd := scDraw.nd
    refine ⟨_, pss_cons (ps_asg (pe_op op_add (pe_ix ix_list (pv 0) pe_int (fun _ _ => rfl)) pe_int) (pg_sub (pv 0) pe_int set_list))
      (pss_cons (ps_asg (pe_op op_mod (pe_callTy call_int1 (by rfl) B.int (by decide +kernel) (pa_cons (pe_op op_add (pe_op op_add (pe_op op_mul (pe_ix ix_list (pv 0) pe_int (fun _ _ => rfl)) pe_int) (pe_op op_mul (pe_ix ix_list (pv 0) pe_int (fun _ _ => rfl)) pe_int)) pe_int) pa_nil)) pe_int) (pg_sub (pv 0) pe_int set_list))
      (pss_cons (ps_if (pt_cmpR op_gt (pe_ix ix_list (pv 0) pe_int (fun _ _ => rfl)) pe_int (nomark _))
          (pss_cons (ps_asg (pe_callB call_divmodW (by rfl) B.divmod (by decide +kernel) (pa_cons (pe_ix ix_list (pv 0) pe_int (fun _ _ => rfl)) (pa_cons (pv 1) pa_nil))) (pg_tup rfl (pgs_cons (pg_sub (pv 0) pe_int set_list) (pgs_cons (pg_name (i := 2) nd rfl (Or.inl rfl)) pgs_nil))))
          (pss_one (ps_ret (pv 2)))) pss_nil)
      (pss_cons (ps_set (i := 3) nd rfl (Or.inl rfl) (pe_callTy call_int1 (by rfl) B.int (by decide +kernel) (pa_cons (pe_ix ix_list (pv 0) pe_int (fun _ _ => rfl)) pa_nil)))
      (pss_cons (ps_set (i := 4) nd rfl (Or.inl rfl) (pe_op op_mod (pe_callTy call_int1 (by rfl) B.int (by decide +kernel) (pa_cons (pe_op op_add (pe_op op_add (pe_op op_mul (pv 3) (pv 3)) (pe_op op_mul pe_int (pv 3))) (pe_ix ix_list (pv 0) pe_int (fun _ _ => rfl))) pa_nil)) pe_int))
      (pss_one (ps_ret (pe_op op_mod (pe_callTy call_int1 (by rfl) B.int (by decide +kernel) (pa_cons (pe_op op_fdiv (pv 4) pe_int) pa_nil)) (pv 1)))))))), ?_⟩
    refine ⟨_, rfl, p, _, _, _, rfl, rfl, SqL.of hp, rfl, _, _, rfl, rfl, _, rfl, p, _, _, 2, rfl, rfl, hp, rfl, ?_⟩
    have h1 : (upd H p (.lst [.int m, .int f, .int (c + 1)])) p = some (.lst [.int m, .int f, .int (c + 1)]) := upd_same
    have hb : (-(2 ^ 64 : Int)) < m ∧ m < 2 ^ 64 := by constructor <;> (have : PM = 2147483629 := rfl; omega)
    have hcb : (-(2 ^ 64 : Int)) < c + 1 ∧ c + 1 < 2 ^ 64 := by constructor <;> omega
    have hx := modPM (m * 48271 + (c + 1) * 2099 + 97)
    refine ⟨_, rfl, p, _, _, _, rfl, rfl, SqL.of h1, rfl, _, _, rfl, rfl, .inl hb, _, rfl, p, _, _, _, rfl, rfl, SqL.of h1, rfl, _, _, rfl, rfl, .inl hcb, _, _, rfl, rfl, _, _, rfl, rfl, .inl ⟨_, rfl, _, _, rfl, rfl, (by show (0 : Int) < 2147483629; decide), _, rfl, p, _, _, 0, rfl, rfl, h1, rfl, ?_⟩⟩
    have k1 := (kept_upd p H (.lst [.int m, .int f, .int (c + 1)])).trans (kept_upd p _ (.lst [.int ((m * 48271 + (c + 1) * 2099 + 97) % 2147483629), .int f, .int (c + 1)]))
    have h2 : (upd (upd H p (.lst [.int m, .int f, .int (c + 1)])) p (.lst [.int ((m * 48271 + (c + 1) * 2099 + 97) % 2147483629), .int f, .int (c + 1)])) p = some (.lst [.int ((m * 48271 + (c + 1) * 2099 + 97) % 2147483629), .int f, .int (c + 1)]) := upd_same
    refine ⟨_, rfl, p, _, _, _, rfl, rfl, SqL.of h2, rfl, _, _, rfl, rfl, _, rfl, ite2 (fun hg => ?_) fun hg => ?_⟩
    · refine ⟨_, rfl, p, _, _, _, rfl, rfl, SqL.of h2, rfl, _, rfl, _, _, rfl, ⟨hn, PyProof.noPylong_of_log2 (Nat.lt_trans (PySem.Flt.log2_lt_of (k := 40) (by decide) (show n.natAbs < 2 ^ 40 by omega)) (by decide))⟩, fun t nt => ?_⟩
      have tp : p ≠ t := fun e => by subst e; have := nt.symm.trans h2; cases this
      have h3 : ∀ o : HO, upd (upd (upd H p (.lst [.int m, .int f, .int (c + 1)])) p (.lst [.int ((m * 48271 + (c + 1) * 2099 + 97) % 2147483629), .int f, .int (c + 1)])) t o p = some (.lst [.int ((m * 48271 + (c + 1) * 2099 + 97) % 2147483629), .int f, .int (c + 1)]) := fun o => (upd_ne tp).trans h2
      refine ⟨t, _, rfl, SqT.of upd_same, rfl, _, _, rfl, ⟨_, rfl, p, _, _, 1, rfl, rfl, h3 _, rfl, _, _, rfl, rfl, ?_⟩⟩
      refine ⟨_, rfl, ?_⟩
      exact k _ _ (Int.emod_nonneg _ (by omega)) (Int.emod_lt_of_pos _ hn) ((k1.trans (Same.kept (same_new nt))).trans (kept_upd p _ _)) ⟨_, f / n, c + 1, upd_same, hx.1, hx.2, Int.ediv_nonneg hf (by omega), by omega, by omega⟩
    · refine ⟨_, rfl, p, _, _, _, rfl, rfl, SqL.of h2, rfl, .inl ⟨_, rfl, ?_⟩⟩
      have hbM : (-(2 ^ 64 : Int)) < (m * 48271 + (c + 1) * 2099 + 97) % 2147483629 ∧ (m * 48271 + (c + 1) * 2099 + 97) % 2147483629 < 2 ^ 64 := by constructor <;> (have : PM = 2147483629 := rfl; omega)
      refine ⟨_, rfl, _, rfl, _, _, rfl, rfl, .inl hbM, _, rfl, _, _, rfl, rfl, .inl ⟨by decide, by decide⟩, _, _, rfl, rfl, _, rfl, p, _, _, _, rfl, rfl, SqL.of h2, rfl, _, _, rfl, rfl, .inl ⟨_, rfl, _, _, rfl, rfl, (by show (0 : Int) < 2147483587; decide), ?_⟩⟩
      refine ⟨_, rfl, _, _, rfl, rfl, ⟨by decide, by decide⟩, .inl ⟨_, rfl, _, rfl, _, _, rfl, rfl, hn, ?_⟩⟩
      exact k _ _ (Int.emod_nonneg _ (by omega)) (Int.emod_lt_of_pos _ hn) k1 ⟨_, f, c + 1, h2, hx.1, hx.2, hf, by omega, by omega⟩
end
end L2.EH
end S_L1
section S_L2
set_option exponentiation.threshold 20000
set_option maxRecDepth 100000
set_option maxHeartbeats 4000000
namespace L2.EH
open PySem PySem.Spec PyProof.Rows StX
/-! ### _law_image: a matrix times a column -/
def imageOf (M : List (List Int)) (ws : List Int) : List Int := M.map fun r => dotp r ws
def SeqsAt (K : PySem.W.Frag) (H : Hp) (xs : List V) (M : List (List Int)) : Prop := xs.length = M.length ∧ ∀ (i : Nat) x r, xs[i]? = some x → M[i]? = some r → ∃ (c : Addr) (t : Bool), x = .ref c ∧ SqK t K H c (r.map V.int)
theorem SeqsAt.same {K : PySem.W.Frag} {H H' : Hp} {xs : List V} {M : List (List Int)} (s : Same H H') (h : SeqsAt K H xs M) : SeqsAt K H' xs M :=
  ⟨h.1, fun i x r e1 e2 => by obtain ⟨c, t, q1, q2⟩ := h.2 i x r e1 e2; exact ⟨c, t, q1, q2.same s⟩⟩
def spImage (K : PySem.W.Frag) : Sp := fun vs H Q _ => ∃ (a b : Addr) (t t3 : Bool) (xs : List V) (M : List (List Int)) (ws : List Int) (n m : Nat), vs = [.ref a, .ref b] ∧ SqK t K H a xs ∧ SeqsAt K H xs M ∧ SqK t3 K H b (ws.map V.int) ∧ M.length ≤ 900 ∧ ws.length ≤ 900 ∧
  (∀ r, r ∈ M → r.length = ws.length ∧ ∀ z, z ∈ r → z.natAbs < 2 ^ n) ∧ (∀ z, z ∈ ws → z.natAbs < 2 ^ m) ∧ 0 < n ∧ 0 < m ∧ n + m ≤ 1000000 ∧ ∀ H' p, Same H H' → H p = none → H' p = some (.lst ((imageOf M ws).map V.int)) → Q (.ref p) H'
theorem scImage : FnScope ["_law_rows", "_law_worths", "_law_row_here", "_law_j"] ["_law_rows", "_law_worths"] (defScope sImage) := ⟨rfl, rfl, rfl, by decide +kernel, rfl, by decide +kernel, by decide +kernel⟩
section
variable {P : Program} {w : World} {K : PySem.W.Frag} {mg : Str → Option Value} {base : Heap}
theorem ok_image {f : Addr} {fd : FuncData} (F : Fun K "_law_image" "_law_image" sImage f fd) (B : BN mg) : FnOk P w K mg base CX0 1 f fd ["_law_rows", "_law_worths"] (spImage K) := by
  refine F.ok scImage (fun vs H Q E h => ?_) (fun cdv A outer s H vs Q E hr h => ?_)
  · obtain ⟨a, b, t, t3, xs, M, ws, n, m, rfl, _⟩ := h
    rfl
  · obtain ⟨a, b, t, t3, xs, M, ws, n, m, rfl, ha, hM, hb, hMl, hwl, hr1, hw1, n0, m0, hnm, k⟩ := h
    have nd := scImage.nd
    refine ⟨_, pss_one (ps_ret (pe_lc (own := [("_law_row_here", 2)]) (g := gName 2) (tt := tYes) rfl nd (pi_seq (pv 0)) (blkOk_by (own := [("_law_row_here", 2)]) (N := ["_law_rows", "_law_worths", "_law_row_here", "_law_j"]) (sc := defScope sImage) (by decide +kernel))
        (fun _ _ _ _ _ => pg_name (i := 2) nd rfl (Or.inr rfl) (Or.inl rfl)) (fun _ _ _ _ _ => pts_nil)
        (fun _ _ _ _ _ => pe_callB (cr_sumK (K := K) rfl rfl) (by rfl) B.sum (by decide +kernel) (pa_cons (pe_lc (own := [("_law_j", 3)]) (g := gName 3) (tt := tYes) rfl nd (pi_range1 (by rfl) B.range (pa_cons (pe_callB (call_lenK (K := K) rfl) (by rfl) B.len boot_len (pa_cons (pv 1) pa_nil)) pa_nil)) (blkOk_by (own := [("_law_j", 3)]) (N := ["_law_rows", "_law_worths", "_law_row_here", "_law_j"]) (sc := scIn (lcScope (retE (bodyAt sImage 0))) (defScope sImage)) (by decide +kernel))
          (fun _ _ _ _ _ => pg_name (i := 3) nd rfl (Or.inl rfl) (Or.inr rfl)) (fun _ _ _ _ _ => pts_nil)
          (fun _ _ _ _ _ => pe_op op_mulW (pe_ix (ix_seqK (K := K) rfl) (pv 2) (pv 3) (fun _ _ => rfl)) (pe_ix (ix_seqK (K := K) rfl) (pv 1) (pv 3) (fun _ _ => rfl)))) pa_nil)))), ?_⟩
    refine ⟨_, rfl, a, t, rfl, ⟨_, ha⟩, fun D nD => ?_⟩
    refine lc_out (walk_sq (t := t) (xs := xs)) (fun i Hc => Grow H D (((imageOf M ws).take i).map V.int) Hc) (Grow.start nD) (fun i Hc _ g => ha.same g.s) ?_ ?_
    · rintro i x Hc _ hi g ⟨rfl, hx'⟩
      have hiM : i < M.length := by rw [← hM.1]; exact hi
      have er : M[i]? = some M[i] := List.getElem?_eq_getElem hiM
      obtain ⟨c, t2, rfl, hc⟩ := hM.2 i x _ hx' er
      have hcc := hc.same g.s
      have hbc := hb.same g.s
      obtain ⟨hrl, hrz⟩ := hr1 _ (List.getElem_mem hiM)
      have el : (ws.map V.int).length = ws.length := by simp
      refine ⟨rfl, _, rfl, _, _, rfl, lenV_sq hbc, _, rfl, by omega, by rw [el]; omega, fun D2 nD2 => ?_⟩
      have en : (((ws.map V.int).length : Nat) : Int).toNat = ws.length := by rw [el]; omega
      rw [en]
      refine lc_out walk_range (fun j Hd => Grow _ D2 (((List.zipWith (· * ·) M[i] ws).take j).map V.int) Hd) (Grow.start nD2) (fun _ _ _ _ => trivial) ?_ ?_
      · rintro j y H1 Hd hj g2 ⟨rfl, rfl⟩
        have eI : ((0 : Int) + (j : Nat)) = (j : Int) := by omega
        show gName 3 (V.int (0 + (j : Nat))) _ _ _
        rw [eI]
        have hjr : j < M[i].length := by omega
        have e1 : (M[i].map V.int)[j]? = some (V.int M[i][j]) := by rw [List.getElem?_map, List.getElem?_eq_getElem hjr]; rfl
        have e2 : (ws.map V.int)[j]? = some (V.int ws[j]) := by rw [List.getElem?_map, List.getElem?_eq_getElem hj]; rfl
        have gz : (List.zipWith (· * ·) M[i] ws)[j]? = some (M[i][j] * ws[j]) := by rw [List.getElem?_zipWith, List.getElem?_eq_getElem hjr, List.getElem?_eq_getElem hj]
        refine ⟨rfl, _, rfl, _, rfl, (hcc.same g2.s).ix (atI_nat e1) ⟨_, rfl, _, rfl, (hbc.same g2.s).ix (atI_nat e2) ⟨_, _, rfl, rfl, wide_mul (hrz _ (List.getElem_mem hjr)) (hw1 _ (List.getElem_mem hj)) n0 m0 hnm, _, g2.d, small1000 (by simp; omega), ?_⟩⟩⟩
        have := g2.step nD2 (V.int (M[i][j] * ws[j]))
        rw [take_snoc' _ j _ gz, List.map_append]
        exact this
      intro Hd g2
      rw [List.take_of_length_le (by simp; omega)] at g2
      refine ⟨D2, _, rfl, SqL.of g2.d, _, (g.same g2.s).d, small1000 (by simp [imageOf]; omega), ?_⟩
      have gz : (imageOf M ws)[i]? = some (dotp M[i] ws) := by unfold imageOf; rw [List.getElem?_map, er]; rfl
      have := (g.same g2.s).step nD (V.int (dotp M[i] ws))
      rw [take_snoc' _ i _ gz, List.map_append]
      exact this
    · intro Hc g
      rw [List.take_of_length_le (by have := hM.1; simp [imageOf]; omega)] at g
      exact k _ D g.s nD g.d
end
end L2.EH
end S_L2
section S_L3
set_option exponentiation.threshold 20000
set_option maxRecDepth 100000
set_option maxHeartbeats 4000000
namespace L2.EH
open PySem PySem.Spec PyProof.Rows StX
def spDigits : Sp := fun vs H Q _ => ∃ n : Nat, vs = [.int (n : Int)] ∧ n < 2 ^ 1100 ∧ ∀ H' p, Same H H' → H p = none → H' p = some (.lst ((bdig n).map V.int)) → Q (.ref p) H'
theorem scDigits : FnScope ["_law_at_here", "_law_found", "_law_left"] ["_law_at_here"] (defScope sDigits) := ⟨rfl, rfl, rfl, by decide +kernel, rfl, by decide +kernel, by decide +kernel⟩
section
variable {P : Program} {w : World} {K : PySem.W.Frag} {mg : Str → Option Value} {base : Heap}
theorem ok_digits {f : Addr} {fd : FuncData} (F : Fun K "_law_digits" "_law_digits" sDigits f fd) (B : BN mg) : FnOk P w K mg base CX0 1 f fd ["_law_at_here"] spDigits := by
  refine F.ok scDigits (fun vs H Q E h => ?_) (fun cdv A outer s H vs Q E hr h => ?_)
  · obtain ⟨n, rfl, _⟩ := h
    rfl
  · obtain ⟨N, rfl, hN, k⟩ := h
    have nd := scDigits.nd
    refine ⟨_, pss_cons (ps_par (i := 1) (j := 2) (by rfl) nd rfl rfl (by decide) rfl rfl (pa_cons (pe_lst pa_nil) (pa_cons (pv 0) pa_nil)) (by rfl))
      (pss_cons (ps_while PassesOwn.never (pt_cmpR op_gt (pv 2) pe_int (nomark _))
        (pss_cons (ps_expr (pe_bm PySem.F.plainAttrs_list PySem.F.slot_list_append PySem.F.type_list_append mt_append (pv 1) (pa_cons (pe_op op_mod (pe_callTy call_int1 (by rfl) B.int (by decide +kernel) (pa_cons (pv 2) pa_nil)) pe_int) pa_nil)))
        (pss_one (ps_set (i := 2) nd rfl (Or.inl rfl) (pe_op op_fdiv (pv 2) pe_int)))))
      (pss_one (ps_ret (pe_revL (pv 1))))), ?_⟩
    refine ⟨by show 0 ≤ sizeLine; decide, fun t nt => ⟨_, rfl, _, _, rfl, ?_⟩⟩
    refine while_by (fun σ H' => ∃ (l : Nat) (ds : List Int), σ = [some (.int (N : Int)), some (.ref t), some (.int (l : Int))] ∧ l * 2 ^ ds.length ≤ N ∧ ds.length ≤ 1100 ∧ bdig N = bdig l ++ ds.reverse ∧ Same H H' ∧ H' t = some (.lst (ds.map V.int)))
      (fun (σ : L2.St) _ => match σ[2]? with
        | some (some (V.int z)) => z.toNat
        | _ => 0) ⟨N, [], rfl, by simp, by simp, by simp, same_new nt, upd_same⟩ ?_ ?_
    · rintro σ H' ⟨l, ds, rfl, hle, h20, hbd, hs, ht⟩
      refine ⟨_, rfl, _, _, rfl, rfl, _, rfl, ?_⟩
      by_cases h0 : 0 < l
      · refine iteT' (decide_eq_true (by omega)) ?_
        have hdl : ds.length < 1100 := by
          rcases Nat.lt_or_ge ds.length 1100 with h' | h'
          · exact h'
          · exfalso
            have e1 : (2 : Nat) ^ 1100 ≤ 2 ^ ds.length := Nat.pow_le_pow_right (by decide) h'
            have e2 : 1 * 2 ^ ds.length ≤ l * 2 ^ ds.length := Nat.mul_le_mul_right _ h0
            omega
        refine ⟨_, rfl, .inl ⟨rfl, _, SqL.of ht⟩, _, rfl, .inl ⟨_, rfl, _, _, rfl, rfl, (by show (0 : Int) < 2; decide), ?_⟩⟩
        refine ⟨t, _, _, rfl, rfl, ht, Nat.lt_of_le_of_lt (show (ds.map V.int).length ≤ 1100 by simpa using h20) (by decide), ?_⟩
        refine ⟨_, rfl, _, _, rfl, rfl, ⟨by decide, by decide⟩, ?_⟩
        have e3 : l / 2 * 2 ^ (ds.length + 1) ≤ N := by
          have : l / 2 * 2 ≤ l := Nat.div_mul_le_self l 2
          have e4 : l / 2 * 2 ^ (ds.length + 1) = (l / 2 * 2) * 2 ^ ds.length := by rw [Nat.pow_succ, Nat.mul_assoc, Nat.mul_comm 2]
          rw [e4]
          exact Nat.le_trans (Nat.mul_le_mul_right _ this) hle
        refine ⟨⟨l / 2, ds ++ [(l : Int) % 2], ?_, by simpa using e3, by simp; omega, ?_, ?_, ?_⟩, ?_⟩
        · show [some (V.int (N : Int)), some (V.ref t), some (V.int ((l : Int) / 2))] = _
          rw [show ((l : Int) / 2) = ((l / 2 : Nat) : Int) by omega]
        · rw [hbd, bdig_pos h0, List.reverse_append, show ((l % 2 : Nat) : Int) = (l : Int) % 2 by omega]
          simp
        · intro b o hb
          rw [upd_ne (ne_of_none hb nt)]; exact hs _ _ hb
        · rw [upd_same, List.map_append]; rfl
        · show ((l : Int) / 2).toNat < (l : Int).toNat
          omega
      · refine iteF' (decide_eq_false (by omega)) ?_
        refine ⟨_, rfl, t, _, rfl, SqL.of ht, fun p np => ?_⟩
        have hl0 : l = 0 := by omega
        rw [hl0, bdig_zero, List.nil_append] at hbd
        exact k _ p (hs.trans (same_new np)) (hs.free np) (by rw [upd_same, hbd, List.map_reverse])
    · rintro σ H' Q1 Q2 hq ⟨v, e1, a, b, e2, e3, c, e4, h⟩
      exact ⟨v, e1, a, b, e2, e3, c, e4, hq _ _ h⟩
end
end L2.EH
end S_L3
section S_L4
set_option exponentiation.threshold 20000
set_option maxRecDepth 100000
set_option maxHeartbeats 4000000
namespace L2.EH
open PySem PySem.Spec PyProof.Rows StX
structure LR where
  even : List (List Int)
  odd : List (List Int)
  heads : List Int
  told : List Int
def lawD (L : LR) : PyData := .tuple [rowsD L.even, rowsD L.odd, rowD L.heads, rowD L.told]
theorem lawD_tup (L : LR) : tupOnly (lawD L) = true := by
  show tupsOnly _ = true
  simp [tupsOnly, rowsD_tup, rowD_tup]
structure LRB (L : LR) (n b : Nat) : Prop where
  few : n ≤ 900
  bits : 0 < b ∧ b ≤ 1000
  e : L.even.length = n
  o : L.odd.length = n
  er : ∀ r, r ∈ L.even → r.length = n ∧ ∀ z, z ∈ r → z.natAbs < 2 ^ b
  or : ∀ r, r ∈ L.odd → r.length = n ∧ ∀ z, z ∈ r → z.natAbs < 2 ^ b
  h : L.heads.length = n ∧ ∀ z, z ∈ L.heads → z.natAbs < 2 ^ b
  t : L.told.length = n ∧ ∀ z, z ∈ L.told → z.natAbs < 2 ^ b
def halfOf (L : LR) (d : Int) : List (List Int) := if d = 0 then L.even else L.odd
def linesOf (L : LR) (ds : List Int) : List Int := ds.foldl (fun ws d => imageOf (halfOf L d) ws) L.heads
theorem linesOf_snoc (L : LR) (ds : List Int) (d : Int) : linesOf L (ds ++ [d]) = imageOf (halfOf L d) (linesOf L ds) := by
  unfold linesOf
  rw [List.foldl_append]; rfl
theorem dotp_cons (x y : Int) (a b : List Int) : dotp (x :: a) (y :: b) = x * y + dotp a b := by simp [dotp]
theorem dotp_le {n m : Nat} : ∀ (a b : List Int), (∀ z, z ∈ a → z.natAbs < 2 ^ n) → (∀ z, z ∈ b → z.natAbs < 2 ^ m) → (dotp a b).natAbs ≤ a.length * 2 ^ (n + m)
  | [], b, _, _ => by simp [dotp]
  | x :: a, [], _, _ => by simp [dotp]
  | x :: a, y :: b, ha, hb => by
    have ih := dotp_le a b (fun z h => ha z (List.mem_cons_of_mem _ h)) (fun z h => hb z (List.mem_cons_of_mem _ h))
    have h1 : (x * y).natAbs < 2 ^ (n + m) := wide_lt (ha x (List.mem_cons_self ..)) (hb y (List.mem_cons_self ..))
    rw [dotp_cons, List.length_cons, Nat.succ_mul]
    have := Int.natAbs_add_le (x * y) (dotp a b)
    omega
theorem dotp_lt {n m : Nat} {a b : List Int} (hl : a.length < 2 ^ 10) (ha : ∀ z, z ∈ a → z.natAbs < 2 ^ n) (hb : ∀ z, z ∈ b → z.natAbs < 2 ^ m) : (dotp a b).natAbs < 2 ^ (10 + n + m) := by
  have h := dotp_le a b ha hb
  have e : 2 ^ (10 + n + m) = 2 ^ 10 * 2 ^ (n + m) := by rw [Nat.add_assoc, Nat.pow_add]
  rw [e]
  exact Nat.lt_of_le_of_lt h (Nat.mul_lt_mul_of_pos_right hl (Nat.pow_pos (by decide)))
theorem LRB.half {L : LR} {n b : Nat} (h : LRB L n b) (d : Int) : (halfOf L d).length = n ∧ ∀ r, r ∈ halfOf L d → r.length = n ∧ ∀ z, z ∈ r → z.natAbs < 2 ^ b := by
  unfold halfOf
  split
  · exact ⟨h.e, h.er⟩
  · exact ⟨h.o, h.or⟩
theorem image_ok {M : List (List Int)} {ws : List Int} {n b c : Nat} (hn : n ≤ 900) (hM : M.length = n ∧ ∀ r, r ∈ M → r.length = n ∧ ∀ z, z ∈ r → z.natAbs < 2 ^ b) (hw : ws.length = n ∧ ∀ z, z ∈ ws → z.natAbs < 2 ^ c) :
    (imageOf M ws).length = n ∧ ∀ z, z ∈ imageOf M ws → z.natAbs < 2 ^ (10 + b + c) := by
  refine ⟨by simp [imageOf, hM.1], fun z hz => ?_⟩
  obtain ⟨r, hr, rfl⟩ := List.mem_map.1 hz
  have h10 : (2 : Nat) ^ 10 = 1024 := by decide
  exact dotp_lt (by rw [(hM.2 r hr).1]; omega) (hM.2 r hr).2 hw.2
theorem lines_ok {L : LR} {n b : Nat} (h : LRB L n b) : ∀ (k : Nat) (ds : List Int), ds.length = k → (linesOf L ds).length = n ∧ ∀ z, z ∈ linesOf L ds → z.natAbs < 2 ^ (b + k * (10 + b))
  | 0, ds, e => by
    have : ds = [] := by simpa using e
    subst this
    simpa [linesOf] using h.h
  | k + 1, ds, e => by
    have hne : ds ≠ [] := by intro z; rw [z] at e; simp at e
    have e2 := (List.dropLast_concat_getLast hne).symm
    rw [e2, linesOf_snoc]
    have ih := lines_ok h k ds.dropLast (by simp [e])
    have r := image_ok h.few (h.half (ds.getLast hne)) ih
    have e3 : 10 + b + (b + k * (10 + b)) = b + (k + 1) * (10 + b) := by rw [Nat.succ_mul]; omega
    rw [e3] at r
    exact r
/-- the lines of a rule of the law at a number -/
def linesAt (L : LR) (n : Nat) : List Int := linesOf L (bdig n)
theorem linesAt_zero (L : LR) : linesAt L 0 = L.heads := by unfold linesAt; rw [bdig_zero]; rfl
theorem linesAt_pos (L : LR) {n : Nat} (h : 0 < n) : linesAt L n = imageOf (halfOf L ((n % 2 : Nat) : Int)) (linesAt L (n / 2)) := by
  unfold linesAt
  rw [bdig_pos h, linesOf_snoc]
def atL (L : LR) (n : Nat) : Int := dotp L.told (linesAt L n)
def spLines (K : PySem.W.Frag) : Sp := fun vs H Q _ => ∃ (v : V) (L : LR) (n b z : Nat), vs = [v, .int (z : Int)] ∧ Dp K H v (lawD L) ∧ LRB L n b ∧ b ≤ 100 ∧ z < 2 ^ 1100 ∧ ∀ H' p, Same H H' → H p = none → H' p = some (.lst ((linesAt L z).map V.int)) → Q (.ref p) H'
def spAt (K : PySem.W.Frag) : Sp := fun vs H Q _ => ∃ (v : V) (L : LR) (n b z : Nat), vs = [v, .int (z : Int)] ∧ Dp K H v (lawD L) ∧ LRB L n b ∧ b ≤ 100 ∧ z < 2 ^ 1100 ∧ ∀ H', Same H H' → Q (.int (atL L z)) H'
theorem scLines : FnScope ["_law_some", "_law_at_here", "_law_worths", "_law_digit"] ["_law_some", "_law_at_here"] (defScope sLines) := ⟨rfl, rfl, rfl, by decide +kernel, rfl, by decide +kernel, by decide +kernel⟩
theorem scAt : FnScope ["_law_some", "_law_at_here"] ["_law_some", "_law_at_here"] (defScope sAt) := ⟨rfl, rfl, rfl, by decide +kernel, rfl, by decide +kernel, by decide +kernel⟩
/-- the four parts of a rule of the law -/
theorem law_parts {K : PySem.W.Frag} {H : Hp} {v : V} {L : LR} (h : Dp K H v (lawD L)) : ∃ s e o d t, v = .ref s ∧ SqT K H s [.ref e, .ref o, .ref d, .ref t] ∧ Dp K H (.ref e) (rowsD L.even) ∧ Dp K H (.ref o) (rowsD L.odd) ∧ SqT K H d (L.heads.map V.int) ∧ SqT K H t (L.told.map V.int) := by
  obtain ⟨s, xs, rfl, hs, hx⟩ := dp_tup h
  cases hx with
  | cons h1 r => cases r with
    | cons h2 r => cases r with
      | cons h3 r => cases r with
        | cons h4 r => cases r with
          | nil =>
            obtain ⟨e, _, rfl, _⟩ := dp_tup h1
            obtain ⟨o, _, rfl, _⟩ := dp_tup h2
            obtain ⟨d, rfl, hd⟩ := dp_row h3
            obtain ⟨t, rfl, ht⟩ := dp_row h4
            exact ⟨s, e, o, d, t, rfl, hs, h1, h2, hd, ht⟩
theorem rows_seqs {K : PySem.W.Frag} {H : Hp} {e : Addr} {M : List (List Int)} (h : Dp K H (.ref e) (rowsD M)) : ∃ xs, SqT K H e xs ∧ SeqsAt K H xs M := by
  obtain ⟨e', xs, e1, hs, hx⟩ := dp_tup h
  cases e1
  refine ⟨xs, hs, by rw [dpAll_len hx, List.length_map], fun i x r q1 q2 => ?_⟩
  obtain ⟨d, hd1, hd2⟩ := dpAll_get' hx q1
  rw [List.getElem?_map, q2] at hd1
  cases hd1
  obtain ⟨c, rfl, hc⟩ := dp_row hd2
  exact ⟨c, true, rfl, hc⟩
section
variable {P : Program} {w : World} {K : PySem.W.Frag} {mg : Str → Option Value} {base : Heap}
theorem ok_lines {f fD fI : Addr} {fd fdD fdI : FuncData} (F : Fun K "_law_lines" "_law_lines" sLines f fd) (B : BN mg) (FD : Fn' P w K mg base 1 "_law_digits" fD fdD ["_law_at_here"] spDigits) (FI : Fn' P w K mg base 1 "_law_image" fI fdI ["_law_rows", "_law_worths"] (spImage K)) :
    FnOk P w K mg base CX0 2 f fd ["_law_some", "_law_at_here"] (spLines K) := by
  refine F.ok scLines (fun vs H Q E h => ?_) (fun cdv A outer s H vs Q E hr h => ?_)
  · obtain ⟨v, L, n, b, z, rfl, _⟩ := h
    rfl
  · obtain ⟨v, L, n, b, z, rfl, hd, hB, hb100, hz2, k⟩ := h
    have h01 := bdig_01 z
    have hlen := bdig_len 1100 z hz2
    obtain ⟨sa, e, o, d, t, rfl, hs, he, ho, hh, ht⟩ := law_parts hd
    have nd := scLines.nd
    refine ⟨_, pss_cons (ps_set (i := 2) nd rfl (Or.inl rfl) (pe_callTy call_list_of (by rfl) B.list (by decide +kernel) (pa_cons (pe_ix ix_tup (pv 0) pe_int (fun _ _ => rfl)) pa_nil)))
      (pss_cons (ps_for PassesOwn.never rfl (pi_list (pe_call FD.ok (by exact hr) (by rfl) FD.m FD.k FD.b .nil pass0 (pa_cons (pv 1) pa_nil))) (pg_name (i := 3) nd rfl (Or.inl rfl))
        (pss_one (ps_set (i := 2) nd rfl (Or.inl rfl) (pe_call FI.ok (by exact hr) (by rfl) FI.m FI.k FI.b .nil pass0 (pa_cons (pe_ix ix_tup (pv 0) (pv 3) (fun _ _ => rfl)) (pa_cons (pv 2) pa_nil))))))
      (pss_one (ps_ret (pv 2)))), ?_⟩
    refine ⟨_, rfl, sa, _, 2, .ref d, rfl, rfl, hs, rfl, d, _, rfl, .inr hh, fun l nl => ?_⟩
    have sl := same_new (o := .lst (L.heads.map V.int)) nl
    refine ⟨_, rfl, z, rfl, hz2, fun H1 p s1 np hp => ?_⟩
    unfold linesAt at k
    generalize bdig z = ds at *
    have s01 := sl.trans s1
    refine ⟨p, rfl, ⟨_, SqL.of hp⟩, ?_⟩
    refine for_it (walk_list (xs := ds.map V.int)) (fun i σ Hc => Same H1 Hc ∧ ∃ (q : Addr) (x : Option V), σ = [some (.ref sa), some (.int z), some (.ref q), x] ∧ H q = none ∧ Hc q = some (.lst ((linesOf L (ds.take i)).map V.int)))
      ⟨Same.refl _, l, none, rfl, nl, by rw [s1 _ _ upd_same]; rfl⟩ (fun i σ Hc _ h => SqL.of (h.1 _ _ hp)) ?_ ?_
    · rintro i x σ H0 Hc hi ⟨s2, q, y, rfl, nq, hq⟩ ⟨rfl, hx'⟩
      rw [List.getElem?_map] at hx'
      cases er : ds[i]? with
      | none => rw [er] at hx'; cases hx'
      | some dd =>
        rw [er] at hx'
        cases hx'
        have s02 := s01.trans s2
        obtain ⟨xe, hxe, hse⟩ := rows_seqs (dp_same s02 he)
        obtain ⟨xo, hxo, hso⟩ := rows_seqs (dp_same s02 ho)
        have hi2 : i < ds.length := (List.getElem?_eq_some_iff.1 er).1
        have lo := lines_ok hB i (ds.take i) (by rw [List.length_take]; omega)
        have hk : b + i * (10 + b) ≤ 122000 := by
          have := hB.bits
          have h1 : i * (10 + b) ≤ 1100 * 110 := Nat.mul_le_mul (by omega) (by omega)
          omega
        have tk := take_snoc' ds i dd er
        have hdd := h01 dd (List.mem_of_getElem? er)
        obtain ⟨c, xs, hat, hc, hss⟩ : ∃ c xs, atI [V.ref e, V.ref o, V.ref d, V.ref t] dd = some (V.ref c) ∧ SqT K Hc c xs ∧ SeqsAt K Hc xs (halfOf L dd) := by
          rcases hdd with rfl | rfl
          · exact ⟨e, xe, rfl, hxe, hse⟩
          · exact ⟨o, xo, rfl, hxo, hso⟩
        have hH := hB.half dd
        refine ⟨_, rfl, _, rfl, sa, _, dd, .ref c, rfl, rfl, same_tup s02 hs, hat, _, rfl, c, q, true, false, xs, _, _, b, b + i * (10 + b), rfl, hc, hss, SqK.ofL hq, by rw [hH.1]; exact hB.few, by rw [lo.1]; exact hB.few, fun r hr => ⟨by rw [(hH.2 r hr).1, lo.1], (hH.2 r hr).2⟩, lo.2, hB.bits.1, by have := hB.bits; omega, by have := hB.bits; omega, fun H3 p3 s3 np3 hp3 => ?_⟩
        exact ⟨s2.trans s3, p3, _, rfl, s02.free np3, by rw [hp3, tk, linesOf_snoc]⟩
    · rintro σ Hc ⟨s2, q, y, rfl, nq, hq⟩
      rw [List.length_map, List.take_length] at hq
      exact ⟨_, rfl, k Hc q (s01.trans s2) nq hq⟩
theorem ok_at {f fL fI : Addr} {fd fdL fdI : FuncData} (F : Fun K "_law_at" "_law_at" sAt f fd) (FL : Fn' P w K mg base 2 "_law_lines" fL fdL ["_law_some", "_law_at_here"] (spLines K)) (FI : Fn' P w K mg base 1 "_law_image" fI fdI ["_law_rows", "_law_worths"] (spImage K)) :
    FnOk P w K mg base CX0 3 f fd ["_law_some", "_law_at_here"] (spAt K) := by
  refine F.ok scAt (fun vs H Q E h => ?_) (fun cdv A outer s H vs Q E hr h => ?_)
  · obtain ⟨v, L, n, b, z, rfl, _⟩ := h
    rfl
  · obtain ⟨v, L, n, b, z, rfl, hd, hB, hb100, hz2, k⟩ := h
    have h01 := bdig_01 z
    have hlen := bdig_len 1100 z hz2
    obtain ⟨sa, e, o, d, t, rfl, hs, he, ho, hh, ht⟩ := law_parts hd
    refine ⟨_, pss_one (ps_ret (pe_ix ix_list (pe_call FI.ok (by exact hr.mono (by decide)) (by rfl) FI.m FI.k FI.b .nil pass0 (pa_cons (pe_lst (pa_cons (pe_ix ix_tup (pv 0) pe_int (fun _ _ => rfl)) pa_nil)) (pa_cons (pe_call FL.ok (by exact hr) (by rfl) FL.m FL.k FL.b .nil pass0 (pa_cons (pv 0) (pa_cons (pv 1) pa_nil))) pa_nil))) pe_int (fun _ _ => rfl))), ?_⟩
    refine ⟨_, rfl, sa, _, 3, .ref t, rfl, rfl, hs, rfl, by show 1 ≤ sizeLine; decide, fun l nl => ?_⟩
    have sl := same_new (o := .lst [V.ref t]) nl
    have hl : (upd H l (.lst [V.ref t])) l = some (.lst [V.ref t]) := upd_same
    refine ⟨_, rfl, _, rfl, .ref sa, L, n, b, z, rfl, dp_same sl hd, hB, hb100, hz2, fun H1 p s1 np hp => ?_⟩
    unfold atL at k
    unfold linesAt at k hp
    generalize bdig z = ds at *
    have lo := lines_ok hB ds.length ds rfl
    have hk : b + ds.length * (10 + b) ≤ 122000 := by
      have := hB.bits
      have h1 : ds.length * (10 + b) ≤ 1100 * 110 := Nat.mul_le_mul (by omega) (by omega)
      omega
    have s01 := sl.trans s1
    refine ⟨l, p, false, false, [V.ref t], [L.told], linesOf L ds, b, b + ds.length * (10 + b), rfl, SqK.ofL (s1 _ _ hl), ⟨rfl, fun i x r q1 q2 => ?_⟩, SqK.ofL hp, by show 1 ≤ 900; decide, by rw [lo.1]; exact hB.few, fun r hr => ?_, lo.2, hB.bits.1, by have := hB.bits; omega, by have := hB.bits; omega, fun H3 p3 s3 np3 hp3 => ?_⟩
    · match i with
      | 0 => cases q1; cases q2; exact ⟨t, true, rfl, same_tup s01 ht⟩
      | i + 1 => cases q1
    · rw [List.mem_singleton.1 hr]
      exact ⟨by rw [hB.t.1, lo.1], hB.t.2⟩
    · exact ⟨p3, _, 0, _, rfl, rfl, SqL.of hp3, rfl, k H3 (s01.trans s3)⟩
end
end L2.EH
end S_L4
section S_L5
set_option exponentiation.threshold 20000
set_option maxRecDepth 100000
set_option maxHeartbeats 4000000
namespace L2.EH
open PySem PySem.Spec PyProof.Rows StX
def spNumber : Sp := fun vs H Q _ => ∃ (p : Addr) (hi : Nat) (n : Int), vs = [.ref p, .int n] ∧ Purse H p hi ∧ hi ≤ 100000 ∧ 0 ≤ n ∧ n ≤ 10 ^ 9 ∧ ∀ (d : Int) H', d.natAbs ≤ n.toNat → Kept p H H' → Purse H' p (hi + 1) → Q (.int d) H'
def spRow : Sp := fun vs H Q _ => ∃ (p : Addr) (hi : Nat) (k n : Int), vs = [.ref p, .int k, .int n] ∧ Purse H p hi ∧ 0 ≤ k ∧ k ≤ 900 ∧ hi + k.toNat ≤ 90000 ∧ 0 ≤ n ∧ n ≤ 10 ^ 8 ∧
  ∀ (r : List Int) H' q, (r.length : Int) = k → (∀ z, z ∈ r → z.natAbs ≤ n.toNat) → Kept p H H' → Purse H' p (hi + k.toNat) → H q = none → H' q = some (.tup (r.map V.int)) → Q (.ref q) H'
theorem scNumber : FnScope ["_law_source_here", "_law_wide"] ["_law_source_here", "_law_wide"] (defScope sNumber) := ⟨rfl, rfl, rfl, by decide +kernel, rfl, by decide +kernel, by decide +kernel⟩
theorem scRow : FnScope ["_law_source_here", "_law_many", "_law_wide", "_law_j"] ["_law_source_here", "_law_many", "_law_wide"] (defScope sRow) := ⟨rfl, rfl, rfl, by decide +kernel, rfl, by decide +kernel, by decide +kernel⟩
section
variable {P : Program} {w : World} {K : PySem.W.Frag} {mg : Str → Option Value} {base : Heap}
theorem ok_number {f fD : Addr} {fd fdD : FuncData} (F : Fun K "_law_number" "_law_number" sNumber f fd) (FD : Fn' P w K mg base 1 "_law_draw" fD fdD ["_law_source_here", "_law_many"] spDraw) :
    FnOk P w K mg base CX0 2 f fd ["_law_source_here", "_law_wide"] spNumber := by
  refine F.ok scNumber (fun vs H Q E h => ?_) (fun cdv A outer s H vs Q E hr h => ?_)
  · obtain ⟨p, hi, n, rfl, _⟩ := h
    rfl
  · obtain ⟨p, hi, n, rfl, hp, hhi, hn, hn2, k⟩ := h
    refine ⟨_, pss_one (ps_ret (pe_op op_sub (pe_call FD.ok (by exact hr) (by rfl) FD.m FD.k FD.b .nil pass0 (pa_cons (pv 0) (pa_cons (pe_op op_add (pe_op op_mul pe_int (pv 1)) pe_int) pa_nil))) (pv 1))), ?_⟩
    refine ⟨_, rfl, _, rfl, _, _, rfl, rfl, .inl ⟨by decide, by decide⟩, _, _, rfl, rfl, p, hi, 2 * n + 1, rfl, hp, hhi, by omega, by omega, fun d H' h0 h1 kp hp' => ?_⟩
    exact ⟨_, rfl, _, _, rfl, rfl, k _ H' (by omega) kp hp'⟩
theorem ok_row {f fN : Addr} {fd fdN : FuncData} (F : Fun K "_law_row" "_law_row" sRow f fd) (B : BN mg) (FN : Fn' P w K mg base 2 "_law_number" fN fdN ["_law_source_here", "_law_wide"] spNumber) :
    FnOk P w K mg base CX0 3 f fd ["_law_source_here", "_law_many", "_law_wide"] spRow := by
  refine F.ok scRow (fun vs H Q E h => ?_) (fun cdv A outer s H vs Q E hr h => ?_)
  · obtain ⟨p, hi, k, n, rfl, _⟩ := h
    rfl
  · obtain ⟨p, hi, m, n, rfl, hp, hm, hm2, hhi, hn, hn2, k⟩ := h
    have nd := scRow.nd
    refine ⟨_, pss_one (ps_ret (pe_callTy call_tuple_of (by rfl) B.tuple (by decide +kernel) (pa_cons (pe_lc (own := [("_law_j", 3)]) (g := gName 3) (tt := tYes) rfl nd (pi_range1 (by rfl) B.range (pa_cons (pv 1) pa_nil)) (blkOk_by (own := [("_law_j", 3)]) (N := ["_law_source_here", "_law_many", "_law_wide", "_law_j"]) (sc := defScope sRow) (by decide +kernel))
      (fun _ _ _ _ _ => pg_name (i := 3) nd rfl (Or.inl rfl) (Or.inr rfl)) (fun _ _ _ _ _ => pts_nil)
      (fun _ _ _ _ _ => pe_call FN.ok (by exact hr) (by rfl) FN.m FN.k FN.b .nil pass0 (pa_cons (pv 0) (pa_cons (pv 2) pa_nil)))) pa_nil))), ?_⟩
    refine ⟨_, rfl, m, rfl, by omega, by omega, fun D nD => ?_⟩
    have hDp : D ≠ p := fun e => by
      obtain ⟨_, _, _, h1, _⟩ := hp
      rw [← e, nD] at h1; cases h1
    refine lc_out walk_range (fun i Hc => Kept p H Hc ∧ Purse Hc p (hi + i) ∧ ∃ r : List Int, r.length = i ∧ (∀ z, z ∈ r → z.natAbs ≤ n.toNat) ∧ Hc D = some (.lst (r.map V.int))) ⟨Same.kept (same_new nD), hp.upd hDp, [], rfl, (fun z h => by cases h), upd_same⟩ (fun _ _ _ _ => trivial) ?_ ?_
    · rintro i x H0 Hc hi' ⟨kp, hpc, r, hrl, hrz, hD⟩ ⟨rfl, rfl⟩
      refine ⟨rfl, _, rfl, _, rfl, p, hi + i, n, rfl, hpc, by omega, hn, by omega, fun d H' hd kp' hp' => ?_⟩
      have hD' := kp' _ _ hDp hD
      refine ⟨_, hD', small1000 (by rw [List.length_map]; omega), ?_, hp'.upd hDp, r ++ [d], by simp [hrl], fun z hz => ?_, by rw [upd_same, List.map_append]; rfl⟩
      · intro b o hb ho
        rw [upd_ne (ne_of_none ho nD)]
        exact kp' b o hb (kp b o hb ho)
      · rcases List.mem_append.1 hz with h | h
        · exact hrz z h
        · rw [List.mem_singleton.1 h]; exact hd
    · rintro Hc ⟨kp, hpc, r, hrl, hrz, hD⟩
      refine ⟨D, _, rfl, .inl ⟨SqL.of hD, fun q nq => ?_⟩⟩
      have nqp : q ≠ p := fun e => by
        obtain ⟨_, _, _, h1, _⟩ := hpc
        rw [← e, nq] at h1; cases h1
      have hq0 : H q = none := by
        cases e : H q with
        | none => rfl
        | some o => rw [kp q o nqp e] at nq; cases nq
      exact k r _ q (by omega) hrz (kp.trans (Same.kept (same_new nq))) (hpc.upd nqp) hq0 upd_same
end
end L2.EH
end S_L5
section S_L6
set_option exponentiation.threshold 20000
set_option maxRecDepth 100000
set_option maxHeartbeats 4000000
namespace L2.EH
open PySem PySem.Spec PyProof.Rows StX
theorem ixN_nat {n j : Nat} (h : j < n) : ixN n (j : Int) = some j := by
  unfold ixN
  rw [if_pos (by omega)]
  simp [h]
theorem dotp_set : ∀ (r h : List Int) (k : Nat) (x : Int), k < r.length → dotp (r.set k x) h = dotp (r.set k 0) h + x * h.getD k 0
  | [], h, k, x, hk => by simp at hk
  | a :: r, [], k, x, hk => by simp [dotp]
  | a :: r, b :: h, 0, x, hk => by
    simp only [List.set_cons_zero, dotp_cons, List.getD_cons_zero]
    omega
  | a :: r, b :: h, k + 1, x, hk => by
    have ih := dotp_set r h k x (by simpa using hk)
    simp only [List.set_cons_succ, dotp_cons, List.getD_cons_succ, ih]
    omega
def FitsL (M : List (List Int)) (h : List Int) : Prop := ∀ (i : Nat) r z, M[i]? = some r → h[i]? = some z → dotp r h = z
/-- how great an entry of a drawn rule may be -/
def ruleCap (m n : Nat) : Nat := max 1 n + m * (max 1 n * max 1 n)
theorem dotp_abs (x y : Nat) : ∀ (a b : List Int), (∀ z, z ∈ a → z.natAbs ≤ x) → (∀ z, z ∈ b → z.natAbs ≤ y) → (dotp a b).natAbs ≤ a.length * (x * y)
  | [], b, _, _ => by simp [dotp]
  | p :: a, [], _, _ => by simp [dotp]
  | p :: a, q :: b, ha, hb => by
    have ih := dotp_abs x y a b (fun z h => ha z (List.mem_cons_of_mem _ h)) (fun z h => hb z (List.mem_cons_of_mem _ h))
    have h1 : (p * q).natAbs ≤ x * y := by rw [Int.natAbs_mul]; exact Nat.mul_le_mul (ha p (by simp)) (hb q (by simp))
    rw [dotp_cons, List.length_cons, Nat.succ_mul]
    have := Int.natAbs_add_le (p * q) (dotp a b)
    omega
def spRule (K : PySem.W.Frag) : Sp := fun vs H Q _ => ∃ (p : Addr) (hi m bt : Nat) (n : Int), ruleCap m n.toNat < 2 ^ bt ∧ 0 < bt ∧ bt ≤ 60 ∧ vs = [.ref p, .int (m : Int), .int n] ∧ Purse H p hi ∧ hi ≤ 10000 ∧ 1 ≤ m ∧ m ≤ 6 ∧ 0 ≤ n ∧ n ≤ 10 ^ 6 ∧
  ∀ (L : LR) H' q, LRB L m bt → FitsL L.even L.heads → (∃ z, z ∈ L.heads ∧ z ≠ 0) → Kept p H H' → Purse H' p (hi + 100) → H q = none → Dp K H' (.ref q) (lawD L) → Q (.ref q) H'
theorem scRule : FnScope ["_law_source_here", "_law_many", "_law_wide", "_law_spot", "_law_sign", "_law_heads", "_law_evens", "_law_head", "_law_row_here", "_law_odds", "_law_j"] ["_law_source_here", "_law_many", "_law_wide"] (defScope sRule) := ⟨rfl, rfl, rfl, by decide +kernel, rfl, by decide +kernel, by decide +kernel⟩
section
variable {P : Program} {w : World} {K : PySem.W.Frag} {mg : Str → Option Value} {base : Heap}
theorem ok_rule {f fD fR fI : Addr} {fd fdD fdR fdI : FuncData} (F : Fun K "_law_rule" "_law_rule" sRule f fd) (B : BN mg) (FD : Fn' P w K mg base 1 "_law_draw" fD fdD ["_law_source_here", "_law_many"] spDraw)
    (FR : Fn' P w K mg base 3 "_law_row" fR fdR ["_law_source_here", "_law_many", "_law_wide"] spRow) (FI : Fn' P w K mg base 1 "_law_image" fI fdI ["_law_rows", "_law_worths"] (spImage K)) :
    FnOk P w K mg base CX0 4 f fd ["_law_source_here", "_law_many", "_law_wide"] (spRule K) := by
  refine F.ok scRule (fun vs H Q E h => ?_) (fun cdv A outer s H vs Q E hr h => ?_)
  · obtain ⟨p, hi, m, bt, n, _, _, _, rfl, _⟩ := h
    rfl
  · obtain ⟨p, hi, m, bt, n, hcap, hbt0, hbt60, rfl, hp, hhi, hm, hm2, hn, hn2, k⟩ := h
    have hN1 : n.toNat ≤ max 1 n.toNat := Nat.le_max_right _ _
    have hN2 : 1 ≤ max 1 n.toNat := Nat.le_max_left _ _
    have hN3 : max 1 n.toNat < 2 ^ bt := Nat.lt_of_le_of_lt (Nat.le_add_right _ _) hcap
    have nd := scRule.nd
    refine ⟨_, pss_cons (ps_par (i := 3) (j := 4) (by rfl) nd rfl rfl (by decide) rfl rfl (pa_cons (pe_call FD.ok (by exact hr.mono (by decide)) (by rfl) FD.m FD.k FD.b .nil pass0 (pa_cons (pv 0) (pa_cons (pv 1) pa_nil))) (pa_cons (pe_op op_sub pe_int (pe_op op_mul pe_int (pe_call FD.ok (by exact hr.mono (by decide)) (by rfl) FD.m FD.k FD.b .nil pass0 (pa_cons (pv 0) (pa_cons pe_int pa_nil))))) pa_nil)) (by rfl))
      (pss_cons (ps_set (i := 5) nd rfl (Or.inl rfl) (pe_callTy call_list_of (by rfl) B.list (by decide +kernel) (pa_cons (pe_call FR.ok (by exact hr) (by rfl) FR.m FR.k FR.b .nil pass0 (pa_cons (pv 0) (pa_cons (pv 1) (pa_cons (pv 2) pa_nil)))) pa_nil)))
      (pss_cons (ps_asg (pv 4) (pg_sub (pv 5) (pv 3) set_list))
      (pss_cons (ps_set (i := 6) nd rfl (Or.inl rfl) (pe_lst pa_nil))
      (pss_cons (ps_for PassesOwn.never rfl (pi_list (pv 5)) (pg_name (i := 7) nd rfl (Or.inl rfl))
        (pss_cons (ps_set (i := 8) nd rfl (Or.inl rfl) (pe_callTy call_list_of (by rfl) B.list (by decide +kernel) (pa_cons (pe_call FR.ok (by exact hr) (by rfl) FR.m FR.k FR.b .nil pass0 (pa_cons (pv 0) (pa_cons (pv 1) (pa_cons (pv 2) pa_nil)))) pa_nil)))
        (pss_cons (ps_asg pe_int (pg_sub (pv 8) (pv 3) set_list))
        (pss_cons (ps_asg (pe_op op_mulW (pv 4) (pe_op op_sub (pv 7) (pe_ix ix_list (pe_call FI.ok (by exact hr.mono (by decide)) (by rfl) FI.m FI.k FI.b .nil pass0 (pa_cons (pe_lst (pa_cons (pv 8) pa_nil)) (pa_cons (pv 5) pa_nil))) pe_int (fun _ _ => rfl)))) (pg_sub (pv 8) (pv 3) set_list))
        (pss_one (ps_expr (pe_bm PySem.F.plainAttrs_list PySem.F.slot_list_append PySem.F.type_list_append mt_append (pv 6) (pa_cons (pe_callTy call_tuple_of (by rfl) B.tuple (by decide +kernel) (pa_cons (pv 8) pa_nil)) pa_nil))))))))
      (pss_cons (ps_set (i := 9) nd rfl (Or.inl rfl) (pe_callTy call_tuple_of (by rfl) B.tuple (by decide +kernel) (pa_cons (pe_lc (own := [("_law_j", 10)]) (g := gName 10) (tt := tYes) rfl nd (pi_range1 (by rfl) B.range (pa_cons (pv 1) pa_nil)) (blkOk_by (own := [("_law_j", 10)]) (N := ["_law_source_here", "_law_many", "_law_wide", "_law_spot", "_law_sign", "_law_heads", "_law_evens", "_law_head", "_law_row_here", "_law_odds", "_law_j"]) (sc := defScope sRule) (by decide +kernel))
        (fun _ _ _ _ _ => pg_name (i := 10) nd rfl (Or.inl rfl) (Or.inr rfl)) (fun _ _ _ _ _ => pts_nil)
        (fun _ _ _ _ _ => pe_call FR.ok (by exact hr) (by rfl) FR.m FR.k FR.b .nil pass0 (pa_cons (pv 0) (pa_cons (pv 1) (pa_cons (pv 2) pa_nil))))) pa_nil)))
      (pss_one (ps_ret (pe_tup (pa_cons (pe_callTy call_tuple_of (by rfl) B.tuple (by decide +kernel) (pa_cons (pv 6) pa_nil)) (pa_cons (pv 9) (pa_cons (pe_callTy call_tuple_of (by rfl) B.tuple (by decide +kernel) (pa_cons (pv 5) pa_nil)) (pa_cons (pe_call FR.ok (by exact hr) (by rfl) FR.m FR.k FR.b .nil pass0 (pa_cons (pv 0) (pa_cons (pv 1) (pa_cons (pv 2) pa_nil)))) pa_nil)))))))))))), ?_⟩
    refine ⟨_, rfl, _, rfl, p, hi, (m : Int), rfl, hp, by omega, by omega, by omega, fun spot H1 hs0 hs1 k1 hp1 => ?_⟩
    refine ⟨_, rfl, p, hi + 1, 2, rfl, hp1, by omega, by decide, by decide, fun sg H2 hg0 hg1 k2 hp2 => ?_⟩
    refine ⟨_, _, rfl, rfl, .inl ⟨by decide, by decide⟩, _, _, rfl, rfl, _, V.int (1 - 2 * sg), rfl, ?_⟩
    generalize hsg : (1 - 2 * sg : Int) = sgn
    have hsgn : sgn = 1 ∨ sgn = -1 := by omega
    -- the heads
    refine ⟨_, rfl, _, rfl, _, rfl, p, hi + 2, (m : Int), n, rfl, hp2, by omega, by omega, by omega, hn, by omega, fun r H3 q hrl hrz k3 hp3 nq hq => ⟨q, _, rfl, .inr (SqT.of hq), fun l nl => ?_⟩⟩
    obtain ⟨kk, rfl⟩ : ∃ kk : Nat, spot = (kk : Int) := ⟨spot.toNat, by omega⟩
    have hkm : kk < m := by omega
    have hrm : r.length = m := by omega
    have l0 : (upd H3 l (.lst (r.map V.int))) l = some (.lst (r.map V.int)) := upd_same
    refine ⟨_, rfl, _, rfl, _, rfl, l, _, (kk : Int), kk, rfl, rfl, l0, ixN_nat (by rw [List.length_map]; omega), ?_⟩
    rw [← List.map_set]
    have hl3 : (upd (upd H3 l (.lst (r.map V.int))) l (.lst ((r.set kk sgn).map V.int))) l = some (.lst ((r.set kk sgn).map V.int)) := upd_same
    have k35 : ∀ b o, H3 b = some o → (upd (upd H3 l (.lst (r.map V.int))) l (.lst ((r.set kk sgn).map V.int))) b = some o := fun b o hb => by
      have := ne_of_none hb nl
      rw [upd_ne this, upd_ne this]; exact hb
    generalize (upd (upd H3 l (.lst (r.map V.int))) l (.lst ((r.set kk sgn).map V.int))) = H5 at *
    generalize hhs : r.set kk sgn = hs at *
    have h20 : (10 : Nat) ^ 6 < 2 ^ 20 := by decide
    have hnn : n.toNat ≤ 10 ^ 6 := by omega
    have hhl : hs.length = m := by rw [← hhs, List.length_set]; exact hrm
    have hhk : hs.getD kk 0 = sgn := by rw [← hhs, List.getD_eq_getElem?_getD, List.getElem?_set_self (by omega)]; rfl
    have hsm : sgn ∈ hs := by rw [← hhs]; exact List.mem_iff_getElem.2 ⟨kk, by rw [List.length_set]; omega, List.getElem_set_self _⟩
    have hhz : ∀ z, z ∈ hs → z.natAbs < 2 ^ 20 := fun z hz => by
      rw [← hhs] at hz
      rcases List.mem_or_eq_of_mem_set hz with h | h
      · have := hrz z h; omega
      · rw [h]; rcases hsgn with e | e <;> rw [e] <;> decide
    have hhN : ∀ z, z ∈ hs → z.natAbs ≤ max 1 n.toNat := fun z hz => by
      rw [← hhs] at hz
      rcases List.mem_or_eq_of_mem_set hz with h | h
      · have := hrz z h; omega
      · rw [h]; rcases hsgn with e | e <;> rw [e] <;> simp <;> omega
    have K05 : Kept p H H5 := fun b o hb ho => k35 b o (k3 b o hb (k2 b o hb (k1 b o hb ho)))
    have P5 : Purse H5 p (hi + 8) := by
      obtain ⟨a1, a2, a3, a4, a5⟩ := hp3.wide (hi' := hi + 8) (by omega)
      exact ⟨a1, a2, a3, k35 _ _ a4, a5⟩
    refine ⟨by show 0 ≤ sizeLine; decide, fun e1 ne1 => ?_⟩
    have e1p : e1 ≠ p := fun e => by obtain ⟨_, _, _, h1, _⟩ := P5; rw [← e, ne1] at h1; cases h1
    have le1 : l ≠ e1 := fun e => by rw [e, ne1] at hl3; cases hl3
    have he6 : (upd H5 e1 (.lst [])) e1 = some (.lst []) := upd_same
    have s56 := same_new (o := .lst []) ne1
    have P6 := P5.upd (o := .lst []) e1p
    generalize hH6 : upd H5 e1 (.lst []) = H6 at *
    have hl6 := s56 _ _ hl3
    have K06 : Kept p H H6 := K05.trans (Same.kept s56)
    have lp : l ≠ p := fun e => by obtain ⟨_, _, _, h1, _⟩ := hp3; rw [← e, nl] at h1; cases h1
    refine ⟨_, rfl, l, rfl, ⟨_, SqL.of hl6⟩, ?_⟩
    refine for_it (walk_list (xs := hs.map V.int)) (fun i σ Hc => ∃ acc M x7 x8, σ = [some (.ref p), some (.int (m : Int)), some (.int n), some (.int (kk : Int)), some (.int sgn), some (.ref l), some (.ref e1), x7, x8, none, none] ∧
        (∀ b o, b ≠ p → b ≠ e1 → H6 b = some o → Hc b = some o) ∧ Purse Hc p (hi + 8 + 6 * i) ∧ Hc e1 = some (.lst acc) ∧ DpAll K Hc acc (M.map rowD) ∧ M.length = i ∧ (∀ r, r ∈ M → r.length = m ∧ ∀ z, z ∈ r → z.natAbs < 2 ^ bt) ∧ FitsL M hs)
      ⟨[], [], none, none, rfl, fun b o _ _ h => h, P6, he6, .nil, rfl, (fun r h => by cases h), fun i r z h => by simp at h⟩ (fun i σ Hc _ ⟨acc, M, x7, x8, _, hk, _⟩ => SqL.of (hk _ _ lp le1 hl6)) ?_ ?_
    · rintro i x σ H0 Hc hi' ⟨acc, M, x7, x8, rfl, hk, hpc, hE, hD, hMl, hMr, hfit⟩ ⟨rfl, hx'⟩
      rw [List.length_map] at hi'
      rw [List.getElem?_map] at hx'
      cases ez : hs[i]? with
      | none => rw [ez] at hx'; cases hx'
      | some z =>
        rw [ez] at hx'
        cases hx'
        refine ⟨_, rfl, _, rfl, _, rfl, p, hi + 8 + 6 * i, (m : Int), n, rfl, hpc, by omega, by omega, by omega, hn, by omega, fun r' Ha qa hl' hz' ka hpa nqa hqa => ⟨qa, _, rfl, .inr (SqT.of hqa), fun l1 nl1 => ?_⟩⟩
        have hrm' : r'.length = m := by omega
        have l10 : (upd Ha l1 (.lst (r'.map V.int))) l1 = some (.lst (r'.map V.int)) := upd_same
        refine ⟨_, rfl, _, rfl, l1, _, (kk : Int), kk, rfl, rfl, l10, ixN_nat (by rw [List.length_map]; omega), ?_⟩
        have emap : (r'.map V.int).set kk (.int 0) = (r'.set kk 0).map V.int := (List.map_set ..).symm
        rw [emap]
        have hb2 : (upd (upd Ha l1 (.lst (r'.map V.int))) l1 (.lst ((r'.set kk 0).map V.int))) l1 = some (.lst ((r'.set kk 0).map V.int)) := upd_same
        have hb1 : ∀ b o, Ha b = some o → (upd (upd Ha l1 (.lst (r'.map V.int))) l1 (.lst ((r'.set kk 0).map V.int))) b = some o := fun b o hb => by
          have := ne_of_none hb nl1
          rw [upd_ne this, upd_ne this]; exact hb
        generalize (upd (upd Ha l1 (.lst (r'.map V.int))) l1 (.lst ((r'.set kk 0).map V.int))) = Hb at *
        have r0z : ∀ z, z ∈ r'.set kk 0 → z.natAbs < 2 ^ 20 := fun z hz => by
          rcases List.mem_or_eq_of_mem_set hz with h | h
          · have := hz' z h; omega
          · rw [h]; decide
        have hla := hb1 _ _ (ka _ _ lp (hk _ _ lp le1 hl6))
        refine ⟨_, rfl, _, rfl, _, rfl, by show 1 ≤ sizeLine; decide, fun l2 nl2 => ?_⟩
        have s2 := same_new (o := .lst [V.ref l1]) nl2
        refine ⟨_, rfl, l2, l, false, false, [V.ref l1], [r'.set kk 0], hs, 20, 20, rfl, SqK.ofL upd_same, ⟨rfl, fun j x r q1 q2 => ?_⟩, SqK.ofL (s2 _ _ hla), by show 1 ≤ 900; decide, by omega, fun r hr => ?_, hhz, by decide, by decide, by decide, fun Hd p3 s3 np3 hp3' => ?_⟩
        · match j with
          | 0 => cases q1; cases q2; exact ⟨l1, false, rfl, SqK.ofL (s2 _ _ hb2)⟩
          | j + 1 => cases q1
        · rw [List.mem_singleton.1 hr]
          exact ⟨by rw [List.length_set]; omega, r0z⟩
        have sbd := s2.trans s3
        have h10 : (2 : Nat) ^ 10 = 1024 := by decide
        have hdot : (dotp (r'.set kk 0) hs).natAbs < 2 ^ 50 := dotp_lt (n := 20) (m := 20) (by rw [List.length_set]; omega) r0z hhz
        have hzz : z.natAbs < 2 ^ 20 := hhz z (List.mem_of_getElem? ez)
        have hsub : (z - dotp (r'.set kk 0) hs).natAbs < 2 ^ 59 := by
          have e1 : (2 : Nat) ^ 20 = 1048576 := by decide
          have e2 : (2 : Nat) ^ 50 = 1125899906842624 := by decide
          have e3 : (2 : Nat) ^ 59 = 576460752303423488 := by decide
          omega
        have hsga : sgn.natAbs < 2 ^ 1 := by rcases hsgn with e | e <;> rw [e] <;> decide
        have hd1 := sbd _ _ hb2
        refine ⟨p3, _, 0, _, rfl, rfl, SqL.of hp3', rfl, _, _, rfl, rfl, _, _, rfl, rfl, wide_mul (a := 1) (b := 59) hsga hsub (by decide) (by decide) (by decide), _, rfl, _, rfl, l1, _, (kk : Int), kk, rfl, rfl, hd1, ixN_nat (by rw [List.length_map, List.length_set]; omega), ?_⟩
        have emap2 : ((r'.set kk 0).map V.int).set kk (.int (sgn * (z - dotp (r'.set kk 0) hs))) = (r'.set kk (sgn * (z - dotp (r'.set kk 0) hs))).map V.int := by rw [← List.map_set, List.set_set]
        rw [emap2]
        have hrow : dotp (r'.set kk (sgn * (z - dotp (r'.set kk 0) hs))) hs = z := by
          rw [dotp_set _ _ _ _ (by omega), hhk]
          rcases hsgn with e | e <;> rw [e] <;> omega
        have hrz2 : ∀ y, y ∈ r'.set kk (sgn * (z - dotp (r'.set kk 0) hs)) → y.natAbs < 2 ^ bt := fun y hy => by
          rcases List.mem_or_eq_of_mem_set hy with h | h
          · have h1 := hz' y h
            omega
          · have r0N : ∀ z, z ∈ r'.set kk 0 → z.natAbs ≤ max 1 n.toNat := fun z hz => by
              rcases List.mem_or_eq_of_mem_set hz with h | h
              · have := hz' z h; omega
              · rw [h]; simp
            have h1 := dotp_abs _ _ (r'.set kk 0) hs r0N hhN
            rw [List.length_set, hrm'] at h1
            have h2 := hhN z (List.mem_of_getElem? ez)
            have h3 : (z - dotp (r'.set kk 0) hs).natAbs < 2 ^ bt := by
              refine Nat.lt_of_le_of_lt ?_ hcap
              unfold ruleCap
              have := Int.natAbs_sub_le z (dotp (r'.set kk 0) hs)
              omega
            rw [h, Int.natAbs_mul]
            rcases hsgn with e | e <;> rw [e] <;> simpa using h3
        have hrl2 : (r'.set kk (sgn * (z - dotp (r'.set kk 0) hs))).length = m := by rw [List.length_set]; exact hrm'
        generalize r'.set kk (sgn * (z - dotp (r'.set kk 0) hs)) = rw' at *
        have he1 : (upd Hd l1 (.lst (rw'.map V.int))) l1 = some (.lst (rw'.map V.int)) := upd_same
        have hEd : Hd e1 = some (.lst acc) := sbd _ _ (hb1 _ _ (ka _ _ e1p hE))
        have e1l1 : e1 ≠ l1 := ne_of_none (ka _ _ e1p hE) nl1
        have hEe : (upd Hd l1 (.lst (rw'.map V.int))) e1 = some (.lst acc) := by rw [upd_ne e1l1]; exact hEd
        have pa : ∃ o, Ha p = some o := by obtain ⟨_, _, _, h1, _⟩ := hpa; exact ⟨_, h1⟩
        have pl1 : l1 ≠ p := fun e => by obtain ⟨o, ho⟩ := pa; rw [← e, nl1] at ho; cases ho
        have kTd : KeepT Hc Hd := (ka.keepT hpc).trans (keepT_same (fun b o hb => sbd _ _ (hb1 b o hb)))
        have kTe : KeepT Hc (upd Hd l1 (.lst (rw'.map V.int))) := kTd.trans (keepT_upd hd1 rfl)
        have Pe : Purse (upd Hd l1 (.lst (rw'.map V.int))) p (hi + 8 + 6 * i + m) := by
          obtain ⟨a1, a2, a3, a4, a5⟩ := hpa
          exact ⟨a1, a2, a3, by rw [upd_ne (Ne.symm pl1)]; exact sbd _ _ (hb1 _ _ a4), a5⟩
        have keepE : ∀ b o, b ≠ p → b ≠ e1 → H6 b = some o → (upd Hd l1 (.lst (rw'.map V.int))) b = some o := fun b o hb hbe ho => by
          have h1 := ka b o hb (hk b o hb hbe ho)
          rw [upd_ne (ne_of_none h1 nl1)]
          exact sbd _ _ (hb1 _ _ h1)
        generalize (upd Hd l1 (.lst (rw'.map V.int))) = He at *
        refine ⟨_, rfl, .inl ⟨rfl, _, SqL.of hEe⟩, _, rfl, l1, _, rfl, .inl ⟨SqL.of he1, fun q2 nq2 => ?_⟩⟩
        have s4 := same_new (o := .tup (rw'.map V.int)) nq2
        have hq2 : (upd He q2 (.tup (rw'.map V.int))) q2 = some (.tup (rw'.map V.int)) := upd_same
        generalize (upd He q2 (.tup (rw'.map V.int))) = Hf at *
        have hEf := s4 _ _ hEe
        have haccl : acc.length = i := by rw [dpAll_len hD, List.length_map, hMl]
        refine ⟨e1, acc, _, rfl, rfl, hEf, small1000 (by omega), acc ++ [.ref q2], M ++ [rw'], _, _, rfl, fun b o hb hbe ho => ?_, ((Pe.same s4).upd e1p).wide (by omega), upd_same, ?_, by simp [hMl], fun r hr => ?_, fun j r y h1 h2 => ?_⟩
        · rw [upd_ne hbe]; exact s4 _ _ (keepE b o hb hbe ho)
        · have kk2 : KeepT Hf (upd Hf e1 (.lst (acc ++ [.ref q2]))) := keepT_upd hEf rfl
          rw [List.map_append]
          refine dpAll_snoc (row_dp (SqT.of (kk2 _ _ hq2 rfl))) (dpAll_keep ((kTe.trans (keepT_same s4)).trans kk2) (tupsOnly_map rowD rowD_tup M) hD)
        · rcases List.mem_append.1 hr with h | h
          · exact hMr r h
          · rw [List.mem_singleton.1 h]; exact ⟨hrl2, hrz2⟩
        · by_cases hj : j < M.length
          · rw [List.getElem?_append_left hj] at h1
            exact hfit j r y h1 h2
          · have hj2 : j = i := by
              have := (List.getElem?_eq_some_iff.1 h1).1
              simp at this; omega
            subst hj2
            rw [List.getElem?_append_right (by omega), hMl, Nat.sub_self] at h1
            cases h1
            rw [ez] at h2
            cases h2
            exact hrow
    rintro σ Hc ⟨acc, M, x7, x8, rfl, hk, hpc, hE, hD, hMl, hMr, hfit⟩
    rw [List.length_map] at hpc hMl
    have K0c : Kept p H Hc := fun b o hb ho => hk b o hb (ne_of_none (K05 b o hb ho) ne1) (K06 b o hb ho)
    have hlc := hk _ _ lp le1 hl6
    refine ⟨_, rfl, (m : Int), rfl, by omega, by omega, fun D nD => ?_⟩
    have en : ((m : Int).toNat) = m := by omega
    rw [en]
    have hDp : D ≠ p := fun e => by obtain ⟨_, _, _, h1, _⟩ := hpc; rw [← e, nD] at h1; cases h1
    refine lc_out walk_range (fun j Hd => ∃ (accO : List V) (O : List (List Int)), Kept p Hc Hd ∧ Purse Hd p (hi + 8 + 6 * hs.length + 6 * j) ∧ Hd D = some (.lst accO) ∧ DpAll K Hd accO (O.map rowD) ∧ O.length = j ∧ (∀ r, r ∈ O → r.length = m ∧ ∀ z, z ∈ r → z.natAbs < 2 ^ bt))
      ⟨[], [], Same.kept (same_new nD), hpc.upd hDp, upd_same, .nil, rfl, fun r h => by cases h⟩ (fun _ _ _ _ => trivial) ?_ ?_
    · rintro j y H0 Hd hj ⟨accO, O, kO, pO, hO, dO, hOl, hOr⟩ ⟨rfl, rfl⟩
      refine ⟨rfl, _, rfl, _, rfl, _, rfl, p, _, (m : Int), n, rfl, pO, by omega, by omega, by omega, hn, by omega, fun r4 H4 q4 hr4 hz4 k4 hp4 nq4 hq4 => ?_⟩
      have hO' := k4 _ _ hDp hO
      have kT4 : KeepT Hd (upd H4 D (.lst (accO ++ [.ref q4]))) := (k4.keepT pO).trans (keepT_upd hO' rfl)
      have haccl : accO.length = j := by rw [dpAll_len dO, List.length_map, hOl]
      refine ⟨accO, hO', small1000 (by omega), accO ++ [.ref q4], O ++ [r4], fun b o hb ho => ?_, (hp4.upd hDp).wide (by omega), upd_same, ?_, by simp [hOl], fun r hr => ?_⟩
      · rw [upd_ne (ne_of_none ho nD)]; exact k4 b o hb (kO b o hb ho)
      · rw [List.map_append]
        exact dpAll_snoc (row_dp (SqT.of (by rw [upd_ne (fun e => by rw [e, hO'] at hq4; cases hq4)]; exact hq4))) (dpAll_keep kT4 (tupsOnly_map rowD rowD_tup O) dO)
      · rcases List.mem_append.1 hr with h | h
        · exact hOr r h
        · rw [List.mem_singleton.1 h]
          refine ⟨by omega, fun z hz => ?_⟩
          have h1 := hz4 z hz
          omega
    rintro Hd ⟨accO, O, kO, pO, hO, dO, hOl, hOr⟩
    refine ⟨D, _, rfl, .inl ⟨SqL.of hO, fun q1 nq1 => ?_⟩⟩
    have s1 := same_new (o := .tup accO) nq1
    have hq1 : (upd Hd q1 (.tup accO)) q1 = some (.tup accO) := upd_same
    generalize upd Hd q1 (.tup accO) = Hq at *
    have hEq := s1 _ _ (kO _ _ e1p hE)
    have hlq := s1 _ _ (kO _ _ lp hlc)
    refine ⟨_, rfl, e1, _, rfl, .inl ⟨SqL.of hEq, fun q2 nq2 => ?_⟩⟩
    have s2 := same_new (o := .tup acc) nq2
    have hq2 : (upd Hq q2 (.tup acc)) q2 = some (.tup acc) := upd_same
    generalize upd Hq q2 (.tup acc) = Hr at *
    refine ⟨_, rfl, _, rfl, l, _, rfl, .inl ⟨SqL.of (s2 _ _ hlq), fun q3 nq3 => ?_⟩⟩
    have s3 := same_new (o := .tup (hs.map V.int)) nq3
    have hq3 : (upd Hr q3 (.tup (hs.map V.int))) q3 = some (.tup (hs.map V.int)) := upd_same
    generalize upd Hr q3 (.tup (hs.map V.int)) = Ht at *
    have s13 := (s1.trans s2).trans s3
    have pT := pO.same s13
    refine ⟨_, rfl, _, rfl, _, rfl, p, _, (m : Int), n, rfl, pT, by omega, by omega, by omega, hn, by omega, fun r4 H4 q4 hr4 hz4 k4 hp4 nq4 hq4 => ⟨by show 4 ≤ sizeLine; decide, fun qf nqf => ?_⟩⟩
    have kf := same_new (o := .tup [V.ref q2, V.ref q1, V.ref q3, V.ref q4]) nqf
    have kAll : Kept p H H4 := (((K0c.trans kO).trans (Same.kept s13)).trans k4)
    have nqfp : qf ≠ p := fun e => by obtain ⟨_, _, _, h1, _⟩ := hp4; rw [← e, nqf] at h1; cases h1
    have nH : H qf = none := by
      cases e : H qf with
      | none => rfl
      | some o => rw [kAll _ _ nqfp e] at nqf; cases nqf
    have kT4 : KeepT Ht H4 := k4.keepT pT
    have kTcd : KeepT Hc Hd := kO.keepT hpc
    have hMl' : M.length = m := by omega
    have hr4' : r4.length = m := by omega
    refine k ⟨M, O, hs, r4⟩ _ qf ⟨by omega, ⟨hbt0, by omega⟩, hMl', hOl, hMr, hOr, ⟨hhl, fun z hz => Nat.lt_of_le_of_lt (hhN z hz) hN3⟩, ⟨hr4', fun z hz => ?_⟩⟩ hfit ⟨sgn, hsm, by omega⟩ (kAll.trans (Same.kept kf)) ((hp4.same kf).wide (by omega)) nH ?_
    · have h1 := hz4 z hz
      omega
    · have kT : KeepT Ht (upd H4 qf (.tup [V.ref q2, V.ref q1, V.ref q3, V.ref q4])) := kT4.trans (keepT_same kf)
      refine .tup (SqT.of upd_same) (.cons ?_ (.cons ?_ (.cons ?_ (.cons ?_ .nil))))
      · exact dp_keep kT (rowsD_tup M) (.tup (SqT.of (s3 _ _ hq2)) (dpAll_keep (kTcd.trans (keepT_same s13)) (tupsOnly_map rowD rowD_tup M) hD))
      · exact dp_keep kT (rowsD_tup O) (.tup (SqT.of (s3 _ _ (s2 _ _ hq1))) (dpAll_same s13 dO))
      · exact dp_keep kT (rowD_tup hs) (row_dp (SqT.of hq3))
      · exact row_dp (SqT.of (kf _ _ hq4))
end
end L2.EH
end S_L6
section S_L7
set_option exponentiation.threshold 20000
set_option maxRecDepth 100000
set_option maxHeartbeats 4000000
namespace L2.EH
open PySem PySem.Spec PyProof.Rows StX
/-! ### lists of tuples that grow -/
def GrowD (K : PySem.W.Frag) (H : Hp) (D : Addr) (ds : List PyData) (Hc : Hp) : Prop := ∃ acc, Grow H D acc Hc ∧ DpAll K Hc acc ds
theorem GrowD.start {K : PySem.W.Frag} {H : Hp} {D : Addr} (nD : H D = none) : GrowD K H D [] (upd H D (.lst [])) := ⟨[], Grow.start nD, .nil⟩
/-- one more: what the comprehension asks of its turn -/
theorem GrowD.step {K : PySem.W.Frag} {H Hc H' : Hp} {D : Addr} {ds : List PyData} {v : V} {d : PyData} {Nx : Hp → Prop} (nD : H D = none) (g : GrowD K H D ds Hc) (s : Same Hc H') (hv : Dp K H' v d) (ht : tupOnly d = true) (hts : tupsOnly ds = true) (hl : ds.length ≤ 1000)
    (hN : ∀ Hn, GrowD K H D (ds ++ [d]) Hn → Nx Hn) : ∃ acc, H' D = some (.lst acc) ∧ acc.length < sizeLine ∧ Nx (upd H' D (.lst (acc ++ [v]))) := by
  obtain ⟨acc, ga, da⟩ := g
  have g2 := ga.same s
  have al : acc.length = ds.length := dpAll_len da
  refine ⟨acc, g2.d, small1000 (by omega), hN _ ⟨acc ++ [v], g2.step nD v, ?_⟩⟩
  have kt : KeepT H' (upd H' D (.lst (acc ++ [v]))) := keepT_upd g2.d rfl
  exact dpAll_snoc (dp_keep kt ht hv) (dpAll_keep ((keepT_same s).trans kt) hts da)
def ones (r : List Int) : List (Int × Int) := r.map fun z => (z, 1)
def plainOf (L : LR) : Plain := ⟨L.even.map ones, L.odd.map ones, L.heads, ones L.told⟩
def spPlain (K : PySem.W.Frag) : Sp := fun vs H Q _ => ∃ (v : V) (L : LR) (n b : Nat), vs = [v] ∧ Dp K H v (lawD L) ∧ LRB L n b ∧ ∀ H' p, Same H H' → H p = none → Dp K H' (.ref p) (plainD (plainOf L)) → Q (.ref p) H'
theorem scPlain : FnScope ["_law_some", "_law_sides", "_law_item", "_law_row_here", "_law_side"] ["_law_some"] (defScope sPlain) := ⟨rfl, rfl, rfl, by decide +kernel, rfl, by decide +kernel, by decide +kernel⟩
def lcElt : Expr → Expr
  | .ListComp e _ _ _ => e
  | e => e
def callArg : Expr → Expr
  | .Call _ (a :: _) _ _ => a
  | e => e
def scP1 : Scope := lcScope (asgE (bodyAt sPlain 0))
def scP2 : Scope := lcScope (callArg (lcElt (asgE (bodyAt sPlain 0))))
theorem pairs_tup (r : List (Int × Int)) : tupsOnly (r.map pairD) = true := tupsOnly_map pairD pairD_tup r
section
variable {P : Program} {w : World} {K : PySem.W.Frag} {mg : Str → Option Value} {base : Heap}
theorem ok_plain {f : Addr} {fd : FuncData} (F : Fun K "_law_plain" "_law_plain" sPlain f fd) (B : BN mg) : FnOk P w K mg base CX0 1 f fd ["_law_some"] (spPlain K) := by
  refine F.ok scPlain (fun vs H Q E h => ?_) (fun cdv A outer s H vs Q E hr h => ?_)
  · obtain ⟨v, L, n, b, rfl, _⟩ := h
    rfl
  · obtain ⟨v, L, n, b, rfl, hd, hB, k⟩ := h
    obtain ⟨sa, e, o, dd, t, rfl, hs, he, ho, hh, ht⟩ := law_parts hd
    have nd := scPlain.nd
    refine ⟨_, pss_cons (ps_setLc (i := 1) (own := [("_law_side", 4)]) (g := gName 4) (tt := tYes) (by rfl) nd rfl rfl (sw_true rfl rfl rfl (by decide +kernel)) (pi_tup (pe_slice sl_tup (pv 0) po_none (po_some pe_int))) (blkOk_by (own := [("_law_side", 4)]) (N := ["_law_some", "_law_sides", "_law_item", "_law_row_here", "_law_side"]) (sc := defScope sPlain) (by decide +kernel))
        (fun _ _ _ _ _ => pg_name (i := 4) nd rfl (Or.inl rfl) (Or.inr rfl)) (fun _ _ _ _ _ => pts_nil)
        (fun _ _ _ _ _ => pe_callTy (call_tupleK (K := K) rfl) (by rfl) B.tuple (by decide +kernel) (pa_cons (pe_lc (own := [("_law_row_here", 3)]) (g := gName 3) (tt := tYes) rfl nd (pi_tupK (K := K) rfl (pv 4)) (blkOk_by (own := [("_law_row_here", 3)]) (N := ["_law_some", "_law_sides", "_law_item", "_law_row_here", "_law_side"]) (sc := scIn scP1 (defScope sPlain)) (by decide +kernel))
          (fun _ _ _ _ _ => pg_name (i := 3) nd rfl (Or.inl rfl) (Or.inr rfl)) (fun _ _ _ _ _ => pts_nil)
          (fun _ _ _ _ _ => pe_callTy (call_tupleK (K := K) rfl) (by rfl) B.tuple (by decide +kernel) (pa_cons (pe_lc (own := [("_law_item", 2)]) (g := gName 2) (tt := tYes) rfl nd (pi_tupK (K := K) rfl (pv 3)) (blkOk_by (own := [("_law_item", 2)]) (N := ["_law_some", "_law_sides", "_law_item", "_law_row_here", "_law_side"]) (sc := scIn scP2 (scIn scP1 (defScope sPlain))) (by decide +kernel))
            (fun _ _ _ _ _ => pg_name (i := 2) nd rfl (Or.inl rfl) (Or.inr rfl)) (fun _ _ _ _ _ => pts_nil)
            (fun _ _ _ _ _ => pe_tup (pa_cons (pv 2) (pa_cons pe_int pa_nil)))) pa_nil))) pa_nil)))
      (pss_one (ps_ret (pe_tup (pa_cons (pe_ix ix_list (pv 1) pe_int (fun _ _ => rfl)) (pa_cons (pe_ix ix_list (pv 1) pe_int (fun _ _ => rfl)) (pa_cons (pe_ix ix_tup (pv 0) pe_int (fun _ _ => rfl)) (pa_cons (pe_callTy call_tuple_of (by rfl) B.tuple (by decide +kernel) (pa_cons (pe_lc (own := [("_law_item", 2)]) (g := gName 2) (tt := tYes) rfl nd (pi_tup (pe_ix ix_tup (pv 0) pe_int (fun _ _ => rfl))) (blkOk_by (own := [("_law_item", 2)]) (N := ["_law_some", "_law_sides", "_law_item", "_law_row_here", "_law_side"]) (sc := defScope sPlain) (by decide +kernel))
            (fun _ _ _ _ _ => pg_name (i := 2) nd rfl (Or.inl rfl) (Or.inr rfl)) (fun _ _ _ _ _ => pts_nil)
            (fun _ _ _ _ _ => pe_tup (pa_cons (pv 2) (pa_cons pe_int pa_nil)))) pa_nil)) pa_nil))))))), ?_⟩
    refine ⟨_, rfl, _, rfl, sa, _, rfl, hs, (fun z => by have h : (2 : Nat) = 4 := z.2; omega), fun a2 na2 => ?_⟩
    have s2 := same_new (o := .tup (cutV [V.ref e, V.ref o, V.ref dd, V.ref t] none (some 2))) na2
    have ha2 : (upd H a2 (.tup (cutV [V.ref e, V.ref o, V.ref dd, V.ref t] none (some 2)))) a2 = some (.tup [V.ref e, V.ref o]) := upd_same
    generalize upd H a2 (.tup (cutV [V.ref e, V.ref o, V.ref dd, V.ref t] none (some 2))) = H2 at *
    refine ⟨a2, rfl, ⟨_, SqT.of ha2⟩, fun D nD => ?_⟩
    have sides : ∀ i : Nat, i < 2 → ∃ (c : Addr) (M : List (List Int)), [V.ref e, V.ref o][i]? = some (V.ref c) ∧ [L.even, L.odd][i]? = some M ∧ Dp K H2 (.ref c) (rowsD M) ∧ M.length = n ∧ ∀ r, r ∈ M → r.length = n := fun i hi => by
      match i, hi with
      | 0, _ => exact ⟨e, L.even, rfl, rfl, dp_same s2 he, hB.e, fun r hr => (hB.er r hr).1⟩
      | 1, _ => exact ⟨o, L.odd, rfl, rfl, dp_same s2 ho, hB.o, fun r hr => (hB.or r hr).1⟩
    have hn900 := hB.few
    refine lc_out (walk_tup (xs := [V.ref e, V.ref o])) (fun i Hc => GrowD K H2 D ((([L.even, L.odd].take i).map fun M => matD (M.map ones))) Hc) (GrowD.start nD) (fun i Hc _ ⟨_, g, _⟩ => same_tup g.s (SqT.of ha2)) ?_ ?_
    · rintro i x H0 Hc hi ⟨acc, g, da⟩ ⟨rfl, hx'⟩
      obtain ⟨c, M, q1, q2, q3, q4, q5⟩ := sides i hi
      rw [q1] at hx'
      cases hx'
      obtain ⟨c', xs3, ec, hc3, hx3⟩ := dp_tup (dp_same g.s q3)
      cases ec
      have hl3 : xs3.length = M.length := by rw [dpAll_len hx3, List.length_map]
      refine ⟨rfl, _, rfl, c, rfl, ⟨_, hc3⟩, fun D2 nD2 => ?_⟩
      refine lc_out (walk_tup (xs := xs3)) (fun j Hd => GrowD K _ D2 ((M.take j).map fun r => prowD (ones r)) Hd) (GrowD.start nD2) (fun j Hd _ ⟨_, g, _⟩ => same_tup g.s hc3) ?_ ?_
      · rintro j x2 H1 Hd hj ⟨acc2, g2, da2⟩ ⟨rfl, hx2⟩
        obtain ⟨dx, hd1, hd2⟩ := dpAll_get' hx3 hx2
        rw [List.getElem?_map] at hd1
        cases er : M[j]? with
        | none => rw [er] at hd1; cases hd1
        | some r =>
          rw [er] at hd1
          cases hd1
          obtain ⟨c3, rfl, hr3⟩ := dp_row (dp_same g2.s hd2)
          have hrl := q5 r (List.mem_of_getElem? er)
          refine ⟨rfl, _, rfl, c3, rfl, ⟨_, hr3⟩, fun D3 nD3 => ?_⟩
          refine lc_out (walk_tup (xs := r.map V.int)) (fun l He => GrowD K _ D3 (((ones r).take l).map pairD) He) (GrowD.start nD3) (fun l He _ ⟨_, g, _⟩ => same_tup g.s hr3) ?_ ?_
          · rintro l y H3 He hl g3 ⟨rfl, hy⟩
            rw [List.getElem?_map] at hy
            cases ey : r[l]? with
            | none => rw [ey] at hy; cases hy
            | some z =>
              rw [ey] at hy
              cases hy
              have hll := (List.getElem?_eq_some_iff.1 ey).1
              have ge : (ones r)[l]? = some (z, 1) := by unfold ones; rw [List.getElem?_map, ey]; rfl
              refine ⟨rfl, _, rfl, by show 2 ≤ sizeLine; decide, fun tt nt => ?_⟩
              refine GrowD.step nD3 g3 (same_new nt) (d := pairD (z, 1)) (pair_dp (SqT.of upd_same)) rfl (pairs_tup _) (by simp; omega) fun Hn gn => ?_
              rw [take_snoc' _ l _ ge, List.map_append]
              exact gn
          · rintro He ⟨acc3, g3, da3⟩
            rw [List.take_of_length_le (by simp [ones])] at da3
            refine ⟨D3, _, rfl, .inl ⟨SqL.of g3.d, fun p np => ?_⟩⟩
            refine GrowD.step nD2 ⟨acc2, g2, da2⟩ (g3.s.trans (same_new np)) (d := prowD (ones r)) (.tup (SqT.of upd_same) (dpAll_same (same_new np) da3)) (prowD_tup _) (tupsOnly_map _ (fun r => prowD_tup _) _) (by simp; have := (List.getElem?_eq_some_iff.1 er).1; omega) fun Hn gn => ?_
            rw [take_snoc' _ j _ er, List.map_append]
            exact gn
      · rintro Hd ⟨acc2, g2, da2⟩
        rw [List.take_of_length_le (by omega)] at da2
        refine ⟨D2, _, rfl, .inl ⟨SqL.of g2.d, fun p np => ?_⟩⟩
        refine GrowD.step nD ⟨acc, g, da⟩ (g2.s.trans (same_new np)) (d := matD (M.map ones)) (.tup (SqT.of upd_same) (by rw [List.map_map]; exact dpAll_same (same_new np) da2)) (matD_tup _) (tupsOnly_map _ (fun r => matD_tup _) _) (by simp; omega) fun Hn gn => ?_
        rw [take_snoc' _ i _ q2, List.map_append]
        exact gn
    · rintro Hc ⟨acc, g, da⟩
      obtain ⟨v1, v2, rfl, dv1, dv2⟩ : ∃ v1 v2, acc = [v1, v2] ∧ Dp K Hc v1 (matD (L.even.map ones)) ∧ Dp K Hc v2 (matD (L.odd.map ones)) := by
        cases da with
        | cons h1 r => cases r with
          | cons h2 r => cases r with
            | nil => exact ⟨_, _, rfl, h1, h2⟩
      have s0c := s2.trans g.s
      refine ⟨_, rfl, D, _, 0, v1, rfl, rfl, SqL.of g.d, rfl, ?_⟩
      refine ⟨_, rfl, D, _, 1, v2, rfl, rfl, SqL.of g.d, rfl, ?_⟩
      refine ⟨_, rfl, sa, _, 2, .ref dd, rfl, rfl, same_tup s0c hs, rfl, ?_⟩
      refine ⟨_, rfl, sa, _, 3, .ref t, rfl, rfl, same_tup s0c hs, rfl, t, rfl, ⟨_, same_tup s0c ht⟩, fun D3 nD3 => ?_⟩
      refine lc_out (walk_tup (xs := L.told.map V.int)) (fun l He => GrowD K _ D3 (((ones L.told).take l).map pairD) He) (GrowD.start nD3) (fun l He _ ⟨_, g, _⟩ => same_tup g.s (same_tup s0c ht)) ?_ ?_
      · rintro l y H3 He hl g3 ⟨rfl, hy⟩
        rw [List.getElem?_map] at hy
        cases ey : L.told[l]? with
        | none => rw [ey] at hy; cases hy
        | some z =>
          rw [ey] at hy
          cases hy
          have hll := (List.getElem?_eq_some_iff.1 ey).1
          have ge : (ones L.told)[l]? = some (z, 1) := by unfold ones; rw [List.getElem?_map, ey]; rfl
          have htl := hB.t.1
          refine ⟨rfl, _, rfl, by show 2 ≤ sizeLine; decide, fun tt nt => ?_⟩
          refine GrowD.step nD3 g3 (same_new nt) (d := pairD (z, 1)) (pair_dp (SqT.of upd_same)) rfl (pairs_tup _) (by simp; omega) fun Hn gn => ?_
          rw [take_snoc' _ l _ ge, List.map_append]
          exact gn
      · rintro He ⟨acc3, g3, da3⟩
        rw [List.take_of_length_le (by simp [ones])] at da3
        refine ⟨D3, _, rfl, .inl ⟨SqL.of g3.d, fun p np => ⟨by show 4 ≤ sizeLine; decide, fun pf npf => ?_⟩⟩⟩
        have s3 := g3.s.trans ((same_new (o := .tup acc3) np).trans (same_new (o := .tup [v1, v2, V.ref dd, V.ref p]) npf))
        refine k _ pf (s0c.trans s3) ((s0c.trans (g3.s.trans (same_new np))).free npf) (.tup (SqT.of upd_same) (.cons (dp_same s3 dv1) (.cons (dp_same s3 dv2) (.cons (row_dp (same_tup s3 (same_tup s0c hh))) (.cons ?_ .nil)))))
        exact .tup (SqT.of (by rw [upd_ne (ne_of_none upd_same npf)]; exact upd_same)) (dpAll_same ((same_new np).trans (same_new npf)) da3)
end
end L2.EH
end S_L7
section S_HalvesElim
/- The law's own elimination: rows that are kept, cleared, thinned; what it finds. Pure. -/
namespace L2.Elim
open L2.Halves
abbrev at0 (r : List Int) (j : Nat) : Int := r.getD j 0
theorem at0_ge {r : List Int} {j : Nat} (h : r.length ≤ j) : at0 r j = 0 := by simp [at0, List.getElem?_eq_none h]
theorem at0_lt {r : List Int} {j : Nat} (h : j < r.length) : at0 r j = r[j] := by simp [at0, List.getElem?_eq_getElem h]
theorem at0_append_left {a b : List Int} {j : Nat} (h : j < a.length) : at0 (a ++ b) j = at0 a j := by simp [at0, List.getElem?_append_left h]
theorem at0_append_right {a b : List Int} {j : Nat} (h : a.length ≤ j) : at0 (a ++ b) j = at0 b (j - a.length) := by simp [at0, List.getElem?_append_right h]
/-! ### greatest common divisors of rows -/
def gcdRow (r : List Int) : Nat := r.foldl (fun g z => Nat.gcd g z.natAbs) 0
theorem gcdRow_snoc (r : List Int) (z : Int) : gcdRow (r ++ [z]) = Nat.gcd (gcdRow r) z.natAbs := by simp [gcdRow, List.foldl_append]
theorem gcdRow_dvd_aux : ∀ (r : List Int) (g0 : Nat), (r.foldl (fun g z => Nat.gcd g z.natAbs) g0) ∣ g0 ∧ ∀ z, z ∈ r → ((r.foldl (fun g z => Nat.gcd g z.natAbs) g0 : Nat) : Int) ∣ z
  | [], g0 => ⟨Nat.dvd_refl _, fun z h => by simp at h⟩
  | x :: r, g0 => by
    have ih := gcdRow_dvd_aux r (Nat.gcd g0 x.natAbs)
    refine ⟨Nat.dvd_trans ih.1 (Nat.gcd_dvd_left _ _), fun z hz => ?_⟩
    rcases List.mem_cons.1 hz with e | e
    · subst e
      have h1 := Nat.dvd_trans ih.1 (Nat.gcd_dvd_right g0 z.natAbs)
      exact Int.natAbs_dvd_natAbs.1 (by simpa using h1)
    · exact ih.2 z e
theorem gcdRow_dvd {r : List Int} {z : Int} (h : z ∈ r) : ((gcdRow r : Nat) : Int) ∣ z := (gcdRow_dvd_aux r 0).2 z h
def thin (r : List Int) : List Int := if 1 < gcdRow r then r.map (fun z => z / (gcdRow r : Int)) else r
theorem thin_length (r : List Int) : (thin r).length = r.length := by unfold thin; split <;> simp
def thinG (r : List Int) : Int := if 1 < gcdRow r then (gcdRow r : Int) else 1
theorem thinG_pos (r : List Int) : 0 < thinG r := by unfold thinG; split <;> omega
theorem thin_at (r : List Int) (i : Nat) : thinG r * at0 (thin r) i = at0 r i := by
  unfold thin thinG
  by_cases h : 1 < gcdRow r
  · rw [if_pos h, if_pos h]
    by_cases hi : i < r.length
    · rw [at0_lt (by simpa using hi), at0_lt hi]
      simp only [List.getElem_map]
      exact Int.mul_ediv_cancel' (gcdRow_dvd (List.getElem_mem hi))
    · rw [at0_ge (by simpa using hi), at0_ge (by omega), Int.mul_zero]
  · rw [if_neg h, if_neg h, Int.one_mul]
theorem thin_small {r : List Int} {n : Nat} (h : ∀ z, z ∈ r → z.natAbs < 2 ^ n) : ∀ z, z ∈ thin r → z.natAbs < 2 ^ n := fun z hz => by
  unfold thin at hz
  split at hz
  · obtain ⟨x, hx, rfl⟩ := List.mem_map.1 hz
    have h1 := h x hx
    have h2 := Int.natAbs_ediv_le_natAbs x (gcdRow r : Int)
    omega
  · exact h z hz
/-! ### one step, all steps -/
def comb (a b : Int) (r s : List Int) : List Int := List.zipWith (fun x y => a * x - b * y) r s
theorem comb_length {a b : Int} {r s : List Int} (h : r.length = s.length) : (comb a b r s).length = r.length := by simp [comb, h]
theorem comb_at {a b : Int} {r s : List Int} (h : r.length = s.length) (i : Nat) : at0 (comb a b r s) i = a * at0 r i - b * at0 s i := by
  by_cases hi : i < r.length
  · rw [at0_lt (by rw [comb_length h]; exact hi), at0_lt hi, at0_lt (by omega)]
    simp [comb]
  · rw [at0_ge (by rw [comb_length h]; omega), at0_ge (by omega), at0_ge (by omega)]; omega
def clr1 (r : List Int) (p : Nat × List Int) : List Int := if at0 r p.1 ≠ 0 then thin (comb (at0 p.2 p.1) (at0 r p.1) r p.2) else r
def cleared (r : List Int) (ks : List (Nat × List Int)) : List Int := ks.foldl clr1 r
theorem cleared_snoc (r : List Int) (ks : List (Nat × List Int)) (k : Nat × List Int) : cleared r (ks ++ [k]) = clr1 (cleared r ks) k := by simp [cleared, List.foldl_append]
theorem cleared_append (r : List Int) (a b : List (Nat × List Int)) : cleared r (a ++ b) = cleared (cleared r a) b := by simp [cleared, List.foldl_append]
theorem clr1_skip {r : List Int} {k : Nat × List Int} (h : at0 r k.1 = 0) : clr1 r k = r := by unfold clr1; rw [if_neg (by simp only [ne_eq, h, not_true_eq_false, not_false_eq_true])]
theorem clr1_spec {r : List Int} {k : Nat × List Int} (hl : r.length = k.2.length) (hk : at0 k.2 k.1 ≠ 0) : (clr1 r k).length = r.length ∧ at0 (clr1 r k) k.1 = 0 ∧
    ∃ g a b : Int, 0 < g ∧ a ≠ 0 ∧ ∀ i, g * at0 (clr1 r k) i = a * at0 r i - b * at0 k.2 i := by
  by_cases h : at0 r k.1 = 0
  · rw [clr1_skip h]
    exact ⟨rfl, h, 1, 1, 0, by decide, by decide, fun i => by omega⟩
  · have e : clr1 r k = thin (comb (at0 k.2 k.1) (at0 r k.1) r k.2) := by unfold clr1; rw [if_pos h]
    rw [e]
    have key : ∀ i, thinG (comb (at0 k.2 k.1) (at0 r k.1) r k.2) * at0 (thin (comb (at0 k.2 k.1) (at0 r k.1) r k.2)) i = at0 k.2 k.1 * at0 r i - at0 r k.1 * at0 k.2 i := fun i => by rw [thin_at, comb_at hl]
    have gp := thinG_pos (comb (at0 k.2 k.1) (at0 r k.1) r k.2)
    refine ⟨by rw [thin_length, comb_length hl], ?_, _, _, _, gp, hk, key⟩
    have := key k.1
    rw [Int.mul_comm (at0 k.2 k.1), Int.sub_self] at this
    rcases Int.mul_eq_zero.1 this with h0 | h0
    · omega
    · exact h0
theorem two_pow_pos (n : Nat) : 0 < 2 ^ n := Nat.pow_pos (by decide)
theorem clr1_small {r : List Int} {k : Nat × List Int} {n m : Nat} (hl : r.length = k.2.length) (hr : ∀ z, z ∈ r → z.natAbs < 2 ^ n) (hk : ∀ z, z ∈ k.2 → z.natAbs < 2 ^ m) : ∀ z, z ∈ clr1 r k → z.natAbs < 2 ^ (n + m + 1) := by
  have at_lt : ∀ {s : List Int} {q : Nat}, (∀ z, z ∈ s → z.natAbs < 2 ^ q) → ∀ i, (at0 s i).natAbs < 2 ^ q := fun {s q} hs i => by
    by_cases hi : i < s.length
    · rw [at0_lt hi]; exact hs _ (List.getElem_mem hi)
    · rw [at0_ge (by omega)]; exact two_pow_pos q
  intro z hz
  unfold clr1 at hz
  split at hz
  · refine thin_small (fun x hx => ?_) z hz
    obtain ⟨i, hi, rfl⟩ := List.getElem_of_mem hx
    rw [← at0_lt hi, comb_at hl]
    have h1 := Nat.mul_lt_mul'' (at_lt hk k.1) (at_lt hr i)
    have h2 := Nat.mul_lt_mul'' (at_lt hr k.1) (at_lt hk i)
    rw [← Int.natAbs_mul] at h1 h2
    rw [← Nat.pow_add] at h1 h2
    rw [Nat.add_comm m n] at h1
    have h3 := Int.natAbs_sub_le (at0 k.2 k.1 * at0 r i) (at0 r k.1 * at0 k.2 i)
    rw [Nat.pow_succ]
    omega
  · have := hr z hz
    exact Nat.lt_of_lt_of_le this (Nat.pow_le_pow_right (by decide) (by omega))
/-! ### sums of multiples -/
def csum (r : List Int) : Nat → List (List Int) → Nat → Int
  | _, [], _ => 0
  | o, v :: vs, j => at0 r o * at0 v j + csum r (o + 1) vs j
theorem csum_append (r : List Int) : ∀ (vs : List (List Int)) (o : Nat) (ws : List (List Int)) (j : Nat), csum r o (vs ++ ws) j = csum r o vs j + csum r (o + vs.length) ws j
  | [], o, ws, j => by simp [csum]
  | v :: vs, o, ws, j => by
    have ih := csum_append r vs (o + 1) ws j
    have e : o + 1 + vs.length = o + (v :: vs).length := by simp; omega
    simp only [List.cons_append, csum, ih, e]
    omega
theorem csum_snoc (r : List Int) (vs : List (List Int)) (o : Nat) (v : List Int) (j : Nat) : csum r o (vs ++ [v]) j = csum r o vs j + at0 r (o + vs.length) * at0 v j := by
  rw [csum_append]; simp [csum]
theorem csum_zero (r : List Int) : ∀ (vs : List (List Int)) (o j : Nat), (∀ m, m < vs.length → at0 r (o + m) = 0) → csum r o vs j = 0
  | [], o, j, h => rfl
  | v :: vs, o, j, h => by
    have h0 : at0 r o = 0 := h 0 (by simp)
    have ih := csum_zero r vs (o + 1) j (fun m hm => by
      have := h (m + 1) (by simp; omega)
      rwa [show o + (m + 1) = o + 1 + m by omega] at this)
    simp only [csum]
    rw [h0, ih]; simp
theorem csum_lin {r s q : List Int} {g a b : Int} (h : ∀ i, g * at0 q i = a * at0 r i - b * at0 s i) : ∀ (vs : List (List Int)) (o j : Nat), g * csum q o vs j = a * csum r o vs j - b * csum s o vs j
  | [], o, j => by simp [csum]
  | v :: vs, o, j => by
    have ih := csum_lin h vs (o + 1) j
    have h0 := h o
    simp only [csum]
    rw [Int.mul_add, ih, ← Int.mul_assoc, h0]
    grind
/-! ### vectors -/
def vec (v : List Int) : Vec Nat := fun j => (at0 v j : Rat)
def valp (W : Nat) (r : List Int) : Vec Nat := fun j => if j < W then (at0 r j : Rat) else 0
theorem vec_zero {v : List Int} {W j : Nat} (h : v.length = W) (hj : W ≤ j) : vec v j = 0 := by
  unfold vec; rw [at0_ge (by omega)]; rfl
theorem csum_span (r : List Int) : ∀ (vs : List (List Int)) (o : Nat), Span (· ∈ vs.map vec) (fun j => (csum r o vs j : Rat))
  | [], o => Span.zero.congr fun n => by simp [csum]
  | v :: vs, o => by
    refine (Span.more (at0 r o : Rat) (vec v) _ (by simp) ((csum_span r vs (o + 1)).mono fun s hs => by simp at hs ⊢; exact .inr hs)).congr fun n => ?_
    simp only [csum, vec]
    rw [Rat.intCast_add, Rat.intCast_mul]
/-! ### the kept rows -/
inductive KO (W R : Nat) : List (List Int) → List (Nat × List Int) → Prop
  | nil : KO W R [] []
  | snoc {vs ks v p r} : KO W R vs ks → v.length = W → r.length = 2 * W + 1 → p < W → at0 r p ≠ 0 → at0 r (2 * W) = 0 → (∀ q, q ∈ ks → at0 r q.1 = 0) → (∀ j, j < W → at0 r j = csum r W (vs ++ [v]) j) →
      at0 r (W + vs.length) ≠ 0 → (∀ m, vs.length < m → m < W → at0 r (W + m) = 0) → (∀ z, z ∈ r → z.natAbs < 2 ^ (2 ^ ks.length * (R + 1) - 1)) → KO W R (vs ++ [v]) (ks ++ [(p, r)])
variable {W R : Nat} {vs : List (List Int)} {ks : List (Nat × List Int)}
theorem KO.len (h : KO W R vs ks) : ks.length = vs.length := by
  induction h with
  | nil => rfl
  | snoc _ _ _ _ _ _ _ _ _ _ _ ih => simp [ih]
theorem KO.wide (h : KO W R vs ks) : ∀ v, v ∈ vs → v.length = W := by
  induction h with
  | nil => intro v h; simp at h
  | snoc _ hv _ _ _ _ _ _ _ _ _ ih =>
    intro x hx
    rcases List.mem_append.1 hx with hx | hx
    · exact ih x hx
    · rw [List.mem_singleton.1 hx]; exact hv
structure KRow (W : Nat) (vs : List (List Int)) (q : Nat × List Int) : Prop where
  len : q.2.length = 2 * W + 1
  lt : q.1 < W
  ne : at0 q.2 q.1 ≠ 0
  t0 : at0 q.2 (2 * W) = 0
  c0 : ∀ m, vs.length ≤ m → m < W → at0 q.2 (W + m) = 0
  rel : ∀ j, j < W → at0 q.2 j = csum q.2 W vs j
theorem KO.rows (h : KO W R vs ks) (hW : vs.length ≤ W) : ∀ q, q ∈ ks → KRow W vs q := by
  induction h with
  | nil => intro q h; simp at h
  | @snoc vs ks v p r h hv hr hp hn ht hz hrel hc hc0 hb ih =>
    have hW' : vs.length + 1 ≤ W := by simpa using hW
    intro q hq
    rcases List.mem_append.1 hq with hq | hq
    · have k := ih (by omega) q hq
      refine ⟨k.len, k.lt, k.ne, k.t0, fun m h1 h2 => k.c0 m (by simp at h1; omega) h2, fun j hj => ?_⟩
      rw [csum_snoc, k.c0 vs.length (Nat.le_refl _) (by omega), Int.zero_mul, Int.add_zero]
      exact k.rel j hj
    · rw [List.mem_singleton.1 hq]
      exact ⟨hr, hp, hn, ht, fun m h1 h2 => hc0 m (by simp at h1; omega) h2, hrel⟩
theorem KO.bits (h : KO W R vs ks) : ∀ (i : Nat) (q : Nat × List Int), ks[i]? = some q → ∀ z, z ∈ q.2 → z.natAbs < 2 ^ (2 ^ i * (R + 1) - 1) := by
  induction h with
  | nil => intro i q e; simp at e
  | @snoc vs ks v p r h hv hr hp hn ht hz hrel hc hc0 hb ih =>
    intro i q e
    by_cases hi : i < ks.length
    · rw [List.getElem?_append_left hi] at e
      exact ih i q e
    · have hi2 : i = ks.length := by
        have := (List.getElem?_eq_some_iff.1 e).1
        simp at this; omega
      subst hi2
      rw [List.getElem?_append_right (Nat.le_refl _), Nat.sub_self] at e
      cases e
      exact hb
/-- clearing: the length, the zeros, what is 0 in all kept rows -/
theorem KO.clear (h : KO W R vs ks) (hW : vs.length ≤ W) {r : List Int} (hr : r.length = 2 * W + 1) : (cleared r ks).length = 2 * W + 1 ∧ (∀ q, q ∈ ks → at0 (cleared r ks) q.1 = 0) ∧
    (∀ i, (∀ q, q ∈ ks → at0 q.2 i = 0) → (at0 (cleared r ks) i = 0 ↔ at0 r i = 0)) := by
  induction h with
  | nil => exact ⟨hr, fun q h => by simp at h, fun i _ => Iff.rfl⟩
  | @snoc vs ks v p o h hv ho hp hn ht hz hrel hc hc0 hb ih =>
    have hW' : vs.length + 1 ≤ W := by simpa using hW
    obtain ⟨i1, i2, i3⟩ := ih (by omega)
    obtain ⟨s1, s2, g, a, b, hg, ha, hs⟩ := clr1_spec (r := cleared r ks) (k := (p, o)) (by rw [i1]; exact ho.symm) hn
    rw [cleared_snoc]
    refine ⟨by rw [s1, i1], fun q hq => ?_, fun i hi => ?_⟩
    · rcases List.mem_append.1 hq with hq | hq
      · have := hs q.1
        rw [i2 q hq, hz q hq, Int.mul_zero, Int.mul_zero, Int.sub_zero] at this
        rcases Int.mul_eq_zero.1 this with h0 | h0
        · omega
        · exact h0
      · rw [List.mem_singleton.1 hq]; exact s2
    · have h1 := i3 i (fun q hq => hi q (List.mem_append.2 (.inl hq)))
      have h2 := hs i
      rw [hi (p, o) (by simp), Int.mul_zero, Int.sub_zero] at h2
      rw [← h1]
      constructor
      · intro e
        rw [e, Int.mul_zero] at h2
        rcases Int.mul_eq_zero.1 h2.symm with h0 | h0
        · exact absurd h0 ha
        · exact h0
      · intro e
        rw [e, Int.mul_zero] at h2
        rcases Int.mul_eq_zero.1 h2 with h0 | h0
        · omega
        · exact h0
def Rel (W : Nat) (vs : List (List Int)) (aim : List Int) (r : List Int) : Prop := ∀ j, j < W → at0 r j = at0 r (2 * W) * at0 aim j + csum r W vs j
theorem Rel.step {aim r o q : List Int} {g a b : Int} (hg : 0 < g) (h : ∀ i, g * at0 q i = a * at0 r i - b * at0 o i) (h1 : Rel W vs aim r) (h0 : at0 o (2 * W) = 0) (h2 : ∀ j, j < W → at0 o j = csum o W vs j) : Rel W vs aim q := fun j hj => by
  have e1 := h j
  have e2 := csum_lin h vs W j
  have e3 := h (2 * W)
  rw [h1 j hj, h2 j hj] at e1
  rw [h0, Int.mul_zero, Int.sub_zero] at e3
  have e4 : g * at0 q j = g * (at0 q (2 * W) * at0 aim j + csum q W vs j) := by
    rw [Int.mul_add, e2, ← Int.mul_assoc, e3, e1]
    grind
  exact Int.eq_of_mul_eq_mul_left (by omega) e4
theorem KO.rel (h : KO W R vs ks) {aim : List Int} : ∀ (more : List (List Int)), (vs ++ more).length ≤ W → ∀ {r : List Int}, r.length = 2 * W + 1 → Rel W (vs ++ more) aim r → Rel W (vs ++ more) aim (cleared r ks) := by
  induction h with
  | nil => intro more _ r _ h; exact h
  | @snoc vs ks v p o h hv ho hp hn ht hz hrel hc hc0 hb ih =>
    intro more hm r hr h1
    have hl : vs.length + 1 + more.length ≤ W := by simp at hm; omega
    rw [cleared_snoc]
    have e : vs ++ [v] ++ more = vs ++ (v :: more) := by simp
    rw [e] at h1 hm ⊢
    have h2 := ih (v :: more) hm hr h1
    obtain ⟨i1, -, -⟩ := h.clear (by omega) hr
    obtain ⟨-, -, g, a, b, hg, ha, hs⟩ := clr1_spec (r := cleared r ks) (k := (p, o)) (by rw [i1]; exact ho.symm) hn
    refine h2.step hg hs ht (fun j hj => ?_)
    have hz0 : csum o (W + (vs ++ [v]).length) more j = 0 := csum_zero o more _ j fun m hm2 => by
      have := hc0 (vs.length + 1 + m) (by omega) (by omega)
      simpa [Nat.add_assoc] using this
    show at0 o j = csum o W (vs ++ (v :: more)) j
    rw [hrel j hj, ← e, csum_append o (vs ++ [v]) W more j, hz0, Int.add_zero]
theorem pow_grow (k R : Nat) : 2 ^ k * (R + 1) - 1 + (2 ^ k * (R + 1) - 1) + 1 = 2 ^ (k + 1) * (R + 1) - 1 := by
  have h : 0 < 2 ^ k * (R + 1) := Nat.mul_pos (two_pow_pos k) (by omega)
  rw [Nat.pow_succ, Nat.mul_comm (2 ^ k) 2, Nat.mul_assoc]
  omega
theorem KO.small (h : KO W R vs ks) (hW : vs.length ≤ W) {r : List Int} (hr : r.length = 2 * W + 1) (hb : ∀ z, z ∈ r → z.natAbs < 2 ^ R) : ∀ z, z ∈ cleared r ks → z.natAbs < 2 ^ (2 ^ ks.length * (R + 1) - 1) := by
  induction h with
  | nil =>
    have e : 2 ^ ([] : List (Nat × List Int)).length * (R + 1) - 1 = R := by simp
    rw [e]; exact hb
  | @snoc vs ks v p o h hv ho hp hn ht hz hrel hc hc0 hbo ih =>
    have hW' : vs.length + 1 ≤ W := by simpa using hW
    rw [cleared_snoc]
    obtain ⟨i1, -, -⟩ := h.clear (by omega) hr
    have := clr1_small (r := cleared r ks) (k := (p, o)) (by rw [i1]; exact ho.symm) (ih (by omega)) hbo
    rw [pow_grow] at this
    simpa using this
/-- what a kept row adds -/
theorem span_valp {r : List Int} (hv : ∀ v, v ∈ vs → v.length = W) (h : ∀ j, j < W → at0 r j = csum r W vs j) : Span (· ∈ vs.map vec) (valp W r) := by
  refine (csum_span r vs W).congr fun n => ?_
  unfold valp
  by_cases hn : n < W
  · rw [if_pos hn, h n hn]
  · rw [if_neg hn]
    have : ∀ (us : List (List Int)) (o : Nat), (∀ v, v ∈ us → v.length = W) → csum r o us n = 0 := by
      intro us
      induction us with
      | nil => intro o _; rfl
      | cons u us ih =>
        intro o hu
        simp only [csum]
        rw [ih _ (fun v hv => hu v (by simp [hv])), at0_ge (r := u) (by rw [hu u (by simp)]; omega)]
        simp
    rw [this vs W hv]; rfl
/-- what hangs on the kept vectors and is 0 at all places is 0 -/
theorem KO.complete (h : KO W R vs ks) (hW : vs.length ≤ W) : ∀ {z : Vec Nat}, Span (· ∈ vs.map vec) z → (∀ q, q ∈ ks → z q.1 = 0) → ∀ j, z j = 0 := by
  induction h with
  | nil =>
    intro z hz _ j
    exact (hz.mono (T := fun _ => False) (fun s hs => by simp at hs)).empty j
  | @snoc vs ks v p o h hv ho hp hn ht hz hrel hc hc0 hbo ih =>
    have hW' : vs.length + 1 ≤ W := by simpa using hW
    intro z hs h0 j
    have hs' : Span (fun x => x = vec v ∨ x ∈ vs.map vec) z := hs.mono fun s hs => by
      simp at hs ⊢
      rcases hs with ⟨a, ha, e⟩ | e
      · exact .inr ⟨a, ha, e⟩
      · exact .inl e
    obtain ⟨c, w, hw, e⟩ := hs'.cons
    -- the kept row is so many times v and others
    have hu : Span (· ∈ vs.map vec) (fun j => (csum o W vs j : Rat)) := csum_span o vs W
    have ea : ∀ n, n < W → (at0 o n : Rat) = (csum o W vs n : Rat) + (at0 o (W + vs.length) : Rat) * vec v n := fun n hn => by
      rw [hrel n hn, csum_snoc, Rat.intCast_add, Rat.intCast_mul]; rfl
    have hc' : (at0 o (W + vs.length) : Rat) ≠ 0 := fun q => hc (by exact_mod_cast q)
    let l : Rat := c / (at0 o (W + vs.length) : Rat)
    have el : l * (at0 o (W + vs.length) : Rat) = c := by show c / _ * _ = c; grind
    have hy : Span (· ∈ vs.map vec) (fun n => w n + (-l) * (csum o W vs n : Rat)) := hw.add (hu.smul (-l))
    have ey : ∀ n, n < W → w n + (-l) * (csum o W vs n : Rat) = z n - l * (at0 o n : Rat) := fun n hn => by
      rw [ea n hn, e n]; grind
    have hy0 := ih (by omega) hy (fun q hq => by
      have hql := (h.rows (by omega) q hq).lt
      show w q.1 + (-l) * (csum o W vs q.1 : Rat) = 0
      rw [ey q.1 hql, h0 q (List.mem_append.2 (.inl hq)), hz q hq]
      grind)
    have hzo : ∀ n, n < W → z n = l * (at0 o n : Rat) := fun n hn => by
      have h1 := hy0 n
      have h2 := ey n hn
      grind
    have hp0 := hzo p hp
    rw [h0 (p, o) (by simp)] at hp0
    have hn' : (at0 o p : Rat) ≠ 0 := fun q => hn (by exact_mod_cast q)
    have l0 : l = 0 := by
      rcases Rat.mul_eq_zero.1 hp0.symm with q | q
      · exact q
      · exact absurd q hn'
    by_cases hj : j < W
    · rw [hzo j hj, l0, Rat.zero_mul]
    · refine hs.zero_at j fun s hs => ?_
      obtain ⟨x, hx, rfl⟩ := List.mem_map.1 hs
      have : x.length = W := by
        rcases List.mem_append.1 hx with hx | hx
        · exact h.wide x hx
        · rw [List.mem_singleton.1 hx]; exact hv
      exact vec_zero this (by omega)
/-- no kept vector hangs on those before it -/
theorem KO.free (h : KO W R vs ks) (hW : vs.length ≤ W) : Free (fun _ => False) (vs.map vec) := by
  induction h with
  | nil => intro A f B e; simp at e
  | @snoc vs ks v p o h hv ho hp hn ht hz hrel hc hc0 hbo ih =>
    have hW' : vs.length + 1 ≤ W := by simpa using hW
    intro A f B e hs
    rcases List.eq_nil_or_concat B with rfl | ⟨B', b, rfl⟩
    · have e2 : vs.map vec ++ [vec v] = A ++ [f] := by simpa using e
      obtain ⟨rfl, e3⟩ := List.append_inj' e2 rfl
      obtain rfl : vec v = f := by simpa using e3
      have hs' : Span (· ∈ vs.map vec) (vec v) := hs.mono fun s hs => by simpa using hs
      have hu : Span (· ∈ vs.map vec) (fun j => (csum o W vs j : Rat) + (at0 o (W + vs.length) : Rat) * vec v j) := (csum_span o vs W).add (hs'.smul _)
      have ea : ∀ n, n < W → (at0 o n : Rat) = (csum o W vs n : Rat) + (at0 o (W + vs.length) : Rat) * vec v n := fun n hn => by
        rw [hrel n hn, csum_snoc, Rat.intCast_add, Rat.intCast_mul]; rfl
      have h0 := h.complete (by omega) hu (fun q hq => by
        have hql := (h.rows (by omega) q hq).lt
        show (csum o W vs q.1 : Rat) + (at0 o (W + vs.length) : Rat) * vec v q.1 = 0
        rw [← ea q.1 hql, hz q hq]; rfl) p
      have h0' : (csum o W vs p : Rat) + (at0 o (W + vs.length) : Rat) * vec v p = 0 := h0
      rw [← ea p hp] at h0'
      exact hn (by exact_mod_cast h0')
    · have e2 : vs.map vec ++ [vec v] = (A ++ f :: B') ++ [b] := by simpa using e
      obtain ⟨e3, -⟩ := List.append_inj' e2 rfl
      exact ih (by omega) A f B' e3 hs
/-- as many as the vectors on which they hang, at most -/
theorem KO.few (h : KO W R vs ks) (hW : vs.length ≤ W) (M : List (Vec Nat)) (hM : ∀ v, v ∈ vs → Span (· ∈ M) (vec v)) : vs.length ≤ M.length := by
  have := free_le (vs.map vec) M (fun _ => False) (h.free hW) fun f hf => by
    obtain ⟨v, hv, rfl⟩ := List.mem_map.1 hf
    exact (hM v hv).mono fun s hs => .inr hs
  simpa using this
theorem KO.places (h : KO W R vs ks) (hW : vs.length ≤ W) : (ks.map (·.1)).Nodup := by
  induction h with
  | nil => simp
  | @snoc vs ks v p o h hv ho hp hn ht hz hrel hc hc0 hbo ih =>
    have hW' : vs.length + 1 ≤ W := by simpa using hW
    rw [List.map_append, List.nodup_append]
    refine ⟨ih (by omega), by simp, fun a ha b hb => ?_⟩
    obtain ⟨q, hq, rfl⟩ := List.mem_map.1 ha
    obtain rfl : b = p := by simpa using hb
    intro e
    exact hn (by rw [← e]; exact hz q hq)
/-! ### fractions in lowest terms -/
def fracSign (b : Int) : Int := if 0 < b then 1 else -1
def frac (t b : Int) : Int × Int := (t / ((Nat.gcd t.natAbs b.natAbs : Nat) * fracSign b), b / ((Nat.gcd t.natAbs b.natAbs : Nat) * fracSign b))
theorem frac_spec {t b : Int} (hb : b ≠ 0) : 0 < (frac t b).2 ∧ (frac t b).2 ∣ b ∧ (frac t b).1 * b = t * (frac t b).2 ∧ Int.gcd (frac t b).1 (frac t b).2 = 1 ∧ (frac t b).1.natAbs ≤ t.natAbs ∧ (frac t b).2.natAbs ≤ b.natAbs := by
  have g0 : 0 < Nat.gcd t.natAbs b.natAbs := Nat.gcd_pos_of_pos_right _ (Int.natAbs_pos.2 hb)
  have gt : ((Nat.gcd t.natAbs b.natAbs : Nat) : Int) ∣ t := Int.natAbs_dvd_natAbs.1 (by simpa using Nat.gcd_dvd_left t.natAbs b.natAbs)
  have gb : ((Nat.gcd t.natAbs b.natAbs : Nat) : Int) ∣ b := Int.natAbs_dvd_natAbs.1 (by simpa using Nat.gcd_dvd_right t.natAbs b.natAbs)
  have cop : Nat.gcd (t.natAbs / Nat.gcd t.natAbs b.natAbs) (b.natAbs / Nat.gcd t.natAbs b.natAbs) = 1 := by rw [Nat.gcd_div (Nat.gcd_dvd_left _ _) (Nat.gcd_dvd_right _ _), Nat.div_self g0]
  generalize hg : Nat.gcd t.natAbs b.natAbs = g at *
  obtain ⟨x, hx⟩ := gt
  obtain ⟨y, hy⟩ := gb
  have gI : (0 : Int) < (g : Int) := by omega
  have hy0 : y ≠ 0 := by intro e; rw [e, Int.mul_zero] at hy; exact hb hy
  have bs : 0 < b ↔ 0 < y := by
    rw [hy]
    constructor
    · intro h; exact Int.pos_of_mul_pos_right h (by omega)
    · intro h; exact Int.mul_pos gI h
  have cop2 : Nat.gcd x.natAbs y.natAbs = 1 := by
    rw [hx, hy, Int.natAbs_mul, Int.natAbs_mul] at cop
    rw [Int.natAbs_natCast, Nat.mul_div_cancel_left _ g0, Nat.mul_div_cancel_left _ g0] at cop
    exact cop
  have lex : x.natAbs ≤ t.natAbs := by
    rw [hx, Int.natAbs_mul, Int.natAbs_natCast]
    exact Nat.le_mul_of_pos_left _ g0
  have ley : y.natAbs ≤ b.natAbs := by
    rw [hy, Int.natAbs_mul, Int.natAbs_natCast]
    exact Nat.le_mul_of_pos_left _ g0
  unfold frac fracSign
  rw [hg]
  by_cases hp : 0 < b
  · rw [if_pos hp, Int.mul_one]
    have e1 : t / (g : Int) = x := by rw [hx]; exact Int.mul_ediv_cancel_left _ (by omega)
    have e2 : b / (g : Int) = y := by rw [hy]; exact Int.mul_ediv_cancel_left _ (by omega)
    rw [e1, e2]
    exact ⟨bs.1 hp, ⟨g, by rw [hy, Int.mul_comm]⟩, by rw [hx, hy]; grind, cop2, lex, ley⟩
  · rw [if_neg hp]
    have e1 : t / ((g : Int) * -1) = -x := by
      rw [show (g : Int) * -1 = -(g : Int) by omega, Int.ediv_neg, hx, Int.mul_ediv_cancel_left _ (by omega)]
    have e2 : b / ((g : Int) * -1) = -y := by
      rw [show (g : Int) * -1 = -(g : Int) by omega, Int.ediv_neg, hy, Int.mul_ediv_cancel_left _ (by omega)]
    rw [e1, e2]
    have : y < 0 := by
      have := fun h => hp (bs.2 h)
      omega
    refine ⟨by show 0 < -y; omega, ⟨-(g : Int), by rw [hy]; grind⟩, by show -x * b = t * -y; rw [hx, hy]; grind, ?_, by simpa using lex, by simpa using ley⟩
    show Nat.gcd (-x).natAbs (-y).natAbs = 1
    rw [Int.natAbs_neg, Int.natAbs_neg]; exact cop2
theorem frac_zero {b : Int} (hb : b ≠ 0) : frac 0 b = (0, 1) := by
  obtain ⟨h1, h2, h3, h4, -⟩ := frac_spec (t := 0) hb
  have e1 : (frac 0 b).1 = 0 := by
    rw [Int.zero_mul] at h3
    rcases Int.mul_eq_zero.1 h3 with q | q
    · exact q
    · exact absurd q hb
  rw [e1] at h4
  have : (frac 0 b).2 = 1 := by
    have h5 : (frac 0 b).2.natAbs = 1 := by simpa using h4
    omega
  exact Prod.ext e1 this
/-! ### what the law finds -/
def aimRow (W : Nat) (aim : List Int) : List Int := aim ++ List.replicate W 0 ++ [1]
theorem aimRow_len {W : Nat} {aim : List Int} (h : aim.length = W) : (aimRow W aim).length = 2 * W + 1 := by simp [aimRow, h]; omega
theorem aimRow_at {W : Nat} {aim : List Int} (h : aim.length = W) : (∀ j, j < W → at0 (aimRow W aim) j = at0 aim j) ∧ (∀ m, m < W → at0 (aimRow W aim) (W + m) = 0) ∧ at0 (aimRow W aim) (2 * W) = 1 := by
  unfold aimRow
  refine ⟨fun j hj => ?_, fun m hm => ?_, ?_⟩
  · rw [at0_append_left (by simp; omega), at0_append_left (by omega)]
  · rw [at0_append_left (by simp; omega), at0_append_right (by omega), at0_lt (by simp; omega)]; simp
  · rw [at0_append_right (by simp; omega)]
    have : 2 * W - (aim ++ List.replicate W 0).length = 0 := by simp; omega
    rw [this]; rfl
def zeroTo (W : Nat) (r : List Int) : Prop := ∀ j, j < W → at0 r j = 0
instance (W : Nat) (r : List Int) : Decidable (zeroTo W r) := inferInstanceAs (Decidable (∀ j, j < W → at0 r j = 0))
def factorsOf (W : Nat) (ks : List (Nat × List Int)) (aim : List Int) : Option (List (Int × Int)) :=
  if zeroTo W (cleared (aimRow W aim) ks) then some ((List.range ks.length).map fun j => frac (-(at0 (cleared (aimRow W aim) ks) (W + j))) (at0 (cleared (aimRow W aim) ks) (2 * W))) else none
theorem rel_aim {W : Nat} {aim : List Int} (h : aim.length = W) (hW : vs.length ≤ W) : Rel W vs aim (aimRow W aim) := fun j hj => by
  obtain ⟨h1, h2, h3⟩ := aimRow_at h
  rw [h1 j hj, h3, csum_zero _ _ _ _ (fun m hm => h2 m (by omega))]; omega
structure Cl (W : Nat) (vs : List (List Int)) (ks : List (Nat × List Int)) (aim r : List Int) : Prop where
  len : r.length = 2 * W + 1
  at_ : ∀ q, q ∈ ks → at0 r q.1 = 0
  rel : Rel W vs aim r
  t : at0 r (2 * W) ≠ 0
  c : ∀ m, vs.length ≤ m → m < W → at0 r (W + m) = 0
theorem KO.cl (h : KO W R vs ks) (hW : vs.length ≤ W) {aim : List Int} (ha : aim.length = W) : Cl W vs ks aim (cleared (aimRow W aim) ks) := by
  obtain ⟨c1, c2, c3⟩ := h.clear hW (aimRow_len ha)
  obtain ⟨a1, a2, a3⟩ := aimRow_at ha
  refine ⟨c1, c2, ?_, fun e => ?_, fun m h1 h2 => ?_⟩
  · have := h.rel (aim := aim) [] (by simpa using hW) (aimRow_len ha) (by simpa using rel_aim ha hW)
    simpa using this
  · have := (c3 (2 * W) fun q hq => (h.rows hW q hq).t0).1 e
    rw [a3] at this; cases this
  · exact (c3 (W + m) fun q hq => (h.rows hW q hq).c0 m h1 h2).2 (a2 m h2)
theorem KO.zero_iff (h : KO W R vs ks) (hW : vs.length ≤ W) {aim : List Int} (ha : aim.length = W) : zeroTo W (cleared (aimRow W aim) ks) ↔ Span (· ∈ vs.map vec) (vec aim) := by
  have c := h.cl hW ha
  have t' : (at0 (cleared (aimRow W aim) ks) (2 * W) : Rat) ≠ 0 := fun q => c.t (by exact_mod_cast q)
  have er : ∀ j, j < W → (at0 (cleared (aimRow W aim) ks) j : Rat) = (at0 (cleared (aimRow W aim) ks) (2 * W) : Rat) * vec aim j + (csum (cleared (aimRow W aim) ks) W vs j : Rat) := fun j hj => by
    rw [c.rel j hj, Rat.intCast_add, Rat.intCast_mul]; rfl
  have hu := csum_span (cleared (aimRow W aim) ks) vs W
  have cw : ∀ n, W ≤ n → csum (cleared (aimRow W aim) ks) W vs n = 0 := fun n hn => by
    have : ∀ (us : List (List Int)) (o : Nat), (∀ v, v ∈ us → v.length = W) → csum (cleared (aimRow W aim) ks) o us n = 0 := by
      intro us
      induction us with
      | nil => intro o _; rfl
      | cons u us ih =>
        intro o hu
        simp only [csum]
        rw [ih _ (fun v hv => hu v (by simp [hv])), at0_ge (r := u) (by rw [hu u (by simp)]; omega)]
        simp
    exact this vs W h.wide
  constructor
  · intro z
    refine (hu.smul (-(1 / (at0 (cleared (aimRow W aim) ks) (2 * W) : Rat)))).congr fun n => ?_
    by_cases hn : n < W
    · have := er n hn
      rw [z n hn] at this
      have e0 : ((0 : Int) : Rat) = 0 := rfl
      rw [e0] at this
      grind
    · rw [cw n (by omega), vec_zero ha (by omega)]
      have e0 : ((0 : Int) : Rat) = 0 := rfl
      rw [e0]; grind
  · intro z j hj
    have hy : Span (· ∈ vs.map vec) (fun n => (at0 (cleared (aimRow W aim) ks) (2 * W) : Rat) * vec aim n + (csum (cleared (aimRow W aim) ks) W vs n : Rat)) := (z.smul _).add hu
    have := h.complete hW hy (fun q hq => by
      have hql := (h.rows hW q hq).lt
      show (at0 (cleared (aimRow W aim) ks) (2 * W) : Rat) * vec aim q.1 + (csum (cleared (aimRow W aim) ks) W vs q.1 : Rat) = 0
      rw [← er q.1 hql, c.at_ q hq]; rfl) j
    have h2 : (at0 (cleared (aimRow W aim) ks) j : Rat) = 0 := by rw [er j hj]; exact this
    exact_mod_cast h2
theorem KO.none_iff (h : KO W R vs ks) (hW : vs.length ≤ W) {aim : List Int} (ha : aim.length = W) : factorsOf W ks aim = none ↔ ¬ Span (· ∈ vs.map vec) (vec aim) := by
  unfold factorsOf
  rw [← h.zero_iff hW ha]
  split <;> simp_all
/-- what is 0 already stays -/
theorem cleared_skip : ∀ (ks : List (Nat × List Int)) {r : List Int}, (∀ q, q ∈ ks → at0 r q.1 = 0) → cleared r ks = r
  | [], r, _ => rfl
  | k :: ks, r, h => by
    show cleared (clr1 r k) ks = r
    rw [clr1_skip (h k (by simp))]
    exact cleared_skip ks fun q hq => h q (by simp [hq])
/-- the first vectors alone -/
theorem KO.take (h : KO W R vs ks) : ∀ i, KO W R (vs.take i) (ks.take i) := by
  induction h with
  | nil => intro i; simpa using KO.nil
  | @snoc vs ks v p o h hv ho hp hn ht hz hrel hc hc0 hbo ih =>
    intro i
    have hl := h.len
    by_cases hi : i ≤ vs.length
    · rw [List.take_append_of_le_length hi, List.take_append_of_le_length (by omega)]
      exact ih i
    · rw [List.take_of_length_le (by simp; omega), List.take_of_length_le (by simp; omega)]
      exact .snoc h hv ho hp hn ht hz hrel hc hc0 hbo
/-- the factors: of those before i alone, if it hangs on those -/
theorem KO.factors (h : KO W R vs ks) (hW : vs.length ≤ W) {aim : List Int} (ha : aim.length = W) (i : Nat) (hs : Span (· ∈ (vs.take i).map vec) (vec aim)) :
    ∃ (t : Int) (cs : List Int), t ≠ 0 ∧ cs.length = vs.length ∧ factorsOf W ks aim = some (cs.map fun c => frac c t) ∧ (∀ j, j < W → t * at0 aim j = csum cs 0 vs j) ∧ (∀ m, i ≤ m → at0 cs m = 0) := by
  have hl := h.len
  have hWi : (vs.take i).length ≤ W := by rw [List.length_take]; omega
  have c := (h.take i).cl hWi ha
  have z := ((h.take i).zero_iff hWi ha).2 hs
  have e : cleared (aimRow W aim) ks = cleared (aimRow W aim) (ks.take i) := by
    conv => lhs; rw [← List.take_append_drop i ks]
    rw [cleared_append]
    exact cleared_skip _ fun q hq => z q.1 (h.rows hW q (List.mem_of_mem_drop hq)).lt
  have c' := h.cl hW ha
  rw [e] at c'
  generalize hr : cleared (aimRow W aim) (ks.take i) = r at *
  refine ⟨at0 r (2 * W), (List.range vs.length).map fun m => -(at0 r (W + m)), c.t, by simp, ?_, fun j hj => ?_, fun m hm => ?_⟩
  · unfold factorsOf
    rw [e, if_pos z, hl, List.map_map]; rfl
  · have h1 := c'.rel j hj
    rw [z j hj] at h1
    have h2 : ∀ (us : List (List Int)) (o : Nat), o + us.length ≤ vs.length → csum ((List.range vs.length).map fun m => -(at0 r (W + m))) o us j = -(csum r (W + o) us j) := by
      intro us
      induction us with
      | nil => intro o _; rfl
      | cons u us ih =>
        intro o ho
        simp at ho
        simp only [csum]
        rw [ih (o + 1) (by omega), at0_lt (by simp; omega)]
        simp only [List.getElem_map, List.getElem_range]
        rw [show W + (o + 1) = W + o + 1 by omega]
        grind
    rw [h2 vs 0 (by omega), Nat.add_zero]
    omega
  · by_cases hm2 : m < vs.length
    · rw [at0_lt (by simp; omega)]
      simp only [List.getElem_map, List.getElem_range]
      have := c.c m (by rw [List.length_take]; omega) (by omega)
      omega
    · rw [at0_ge (by simp; omega)]
/-- the row of a vector that is kept -/
def keptRow (W k : Nat) (v : List Int) : List Int := v ++ (List.range (W + 1)).map fun j => if j = k then (1 : Int) else 0
def headOf (W : Nat) (r : List Int) : Nat := ((List.range W).filter fun j => decide (at0 r j ≠ 0)).headD 0
def keptWith (W : Nat) (ks : List (Nat × List Int)) (v : List Int) : List (Nat × List Int) := ks ++ [(headOf W (cleared (keptRow W ks.length v) ks), cleared (keptRow W ks.length v) ks)]
theorem keptRow_len {W k : Nat} {v : List Int} (h : v.length = W) : (keptRow W k v).length = 2 * W + 1 := by simp [keptRow, h]; omega
theorem keptRow_at {W k : Nat} {v : List Int} (h : v.length = W) (hk : k < W) : (∀ j, j < W → at0 (keptRow W k v) j = at0 v j) ∧ (∀ m, m ≤ W → at0 (keptRow W k v) (W + m) = if m = k then 1 else 0) := by
  unfold keptRow
  refine ⟨fun j hj => by rw [at0_append_left (by omega)], fun m hm => ?_⟩
  rw [at0_append_right (by omega), at0_lt (by simp; omega)]
  simp only [List.getElem_map, List.getElem_range]
  rw [show W + m - v.length = m by omega]
theorem headOf_spec {W : Nat} {r : List Int} (h : ¬ zeroTo W r) : headOf W r < W ∧ at0 r (headOf W r) ≠ 0 := by
  unfold headOf
  cases e : (List.range W).filter fun j => decide (at0 r j ≠ 0) with
  | nil =>
    refine absurd (fun j hj => ?_) h
    have := List.filter_eq_nil_iff.1 e j (by simpa using hj)
    simpa using this
  | cons a l =>
    have : a ∈ (List.range W).filter fun j => decide (at0 r j ≠ 0) := by rw [e]; simp
    simpa using this
/-- two rows with the same vector, up to multiples, are cleared alike -/
theorem KO.same (h : KO W R vs ks) (hW : vs.length ≤ W) {r s : List Int} (hr : r.length = 2 * W + 1) (hs : s.length = 2 * W + 1) (e : ∀ j, j < W → at0 r j = at0 s j) :
    ∃ a b : Int, a ≠ 0 ∧ b ≠ 0 ∧ ∀ j, j < W → a * at0 (cleared r ks) j = b * at0 (cleared s ks) j := by
  induction h with
  | nil => exact ⟨1, 1, by decide, by decide, fun j hj => by simp only [cleared, List.foldl_nil]; rw [e j hj]⟩
  | @snoc vs ks v p o h hv ho hp hn ht hz hrel hc hc0 hbo ih =>
    have hW' : vs.length + 1 ≤ W := by simpa using hW
    obtain ⟨a, b, ha, hb, hab⟩ := ih (by omega)
    obtain ⟨l1, -⟩ := h.clear (by omega) hr
    obtain ⟨l2, -⟩ := h.clear (by omega) hs
    rw [cleared_snoc, cleared_snoc]
    have o0 : at0 (p, o).2 (p, o).1 ≠ 0 := hn
    have hp' := hab p hp
    by_cases h0 : at0 (cleared r ks) p = 0
    · have h0' : at0 (cleared s ks) p = 0 := by
        rw [h0, Int.mul_zero] at hp'
        rcases Int.mul_eq_zero.1 hp'.symm with q | q
        · exact absurd q hb
        · exact q
      rw [clr1_skip h0, clr1_skip h0']
      exact ⟨a, b, ha, hb, hab⟩
    · have h0' : at0 (cleared s ks) p ≠ 0 := fun q => by
        rw [q, Int.mul_zero] at hp'
        rcases Int.mul_eq_zero.1 hp' with q | q
        · exact ha q
        · exact h0 q
      have key : ∀ x : List Int, x.length = 2 * W + 1 → at0 x p ≠ 0 → ∃ g : Int, 0 < g ∧ ∀ i, g * at0 (clr1 x (p, o)) i = at0 o p * at0 x i - at0 x p * at0 o i := fun x hx h0 => by
        refine ⟨_, thinG_pos (comb (at0 o p) (at0 x p) x o), fun i => ?_⟩
        have e : clr1 x (p, o) = thin (comb (at0 o p) (at0 x p) x o) := by unfold clr1; rw [if_pos h0]
        rw [e, thin_at, comb_at (by rw [hx, ho])]
      obtain ⟨g, hg, k1⟩ := key _ l1 h0
      obtain ⟨g', hg', k2⟩ := key _ l2 h0'
      refine ⟨a * g, b * g', Int.mul_ne_zero ha (by omega), Int.mul_ne_zero hb (by omega), fun j hj => ?_⟩
      rw [Int.mul_assoc, Int.mul_assoc, k1, k2]
      have q1 := hab j hj
      have q2 := hp'
      grind
/-- one more is kept -/
theorem KO.keep (h : KO W R vs ks) (hW : vs.length < W) {v : List Int} (hv : v.length = W) (hb : ∀ z, z ∈ v → z.natAbs < 2 ^ R) (hR : 0 < R) (hn : ¬ Span (· ∈ vs.map vec) (vec v)) : KO W R (vs ++ [v]) (keptWith W ks v) := by
  have hl := h.len
  obtain ⟨a1, a2⟩ := keptRow_at (k := ks.length) hv (by omega)
  have kl := keptRow_len (k := ks.length) hv
  obtain ⟨c1, c2, c3⟩ := h.clear (by omega) kl
  have nz : ¬ zeroTo W (cleared (keptRow W ks.length v) ks) := fun z => by
    refine hn ((h.zero_iff (by omega) hv).1 fun j hj => ?_)
    obtain ⟨a, b, ha, hb, e⟩ := h.same (by omega) (aimRow_len hv) kl fun j hj => by rw [(aimRow_at hv).1 j hj, a1 j hj]
    have := e j hj
    rw [z j hj, Int.mul_zero] at this
    rcases Int.mul_eq_zero.1 this with q | q
    · exact absurd q ha
    · exact q
  obtain ⟨p1, p2⟩ := headOf_spec nz
  have t0 : at0 (keptRow W ks.length v) (2 * W) = 0 := by
    have := a2 W (Nat.le_refl _)
    rw [show W + W = 2 * W by omega, if_neg (by omega)] at this
    exact this
  have ct : at0 (cleared (keptRow W ks.length v) ks) (2 * W) = 0 := (c3 (2 * W) fun q hq => (h.rows (by omega) q hq).t0).2 t0
  have rl : Rel W (vs ++ [v]) [] (cleared (keptRow W ks.length v) ks) := h.rel (aim := []) [v] (by simp; omega) kl fun j hj => by
    rw [a1 j hj, t0, Int.zero_mul, Int.zero_add, csum_snoc, csum_zero _ _ _ _ (fun m hm => by rw [a2 m (by omega), if_neg (by omega)]), a2 vs.length (by omega), if_pos hl.symm]
    omega
  refine .snoc h hv c1 p1 p2 ct c2 (fun j hj => ?_) (fun e => ?_) (fun m h1 h2 => ?_) (h.small (by omega) kl fun z hz => ?_)
  · have := rl j hj
    rw [ct, Int.zero_mul, Int.zero_add] at this
    exact this
  · have := (c3 (W + vs.length) fun q hq => (h.rows (by omega) q hq).c0 _ (Nat.le_refl _) (by omega)).1 e
    rw [a2 vs.length (by omega), if_pos hl.symm] at this
    cases this
  · refine (c3 (W + m) fun q hq => (h.rows (by omega) q hq).c0 m (by omega) h2).2 ?_
    rw [a2 m (by omega), if_neg (by omega)]
  · rcases List.mem_append.1 hz with hz | hz
    · exact hb z hz
    · obtain ⟨j, -, rfl⟩ := List.mem_map.1 hz
      have : 2 ^ 1 ≤ 2 ^ R := Nat.pow_le_pow_right (by decide) hR
      split <;> simp <;> omega
end L2.Elim
end S_HalvesElim
section S_HalvesSpan
/- The search for the new numbers of a span, as the laws do it. Pure. -/
namespace L2.Elim
open L2.Halves
variable {J : Nat → List Int} {W R : Nat}
/-- what hangs on the numbers found up to a place -/
def Settled (J : Nat → List Int) (found : List Nat) (p : Nat) : Prop := Span (fun s => ∃ m, m ∈ found ∧ m ≤ p ∧ s = vec (J m)) (vec (J p))
theorem Settled.more {f : List Nat} {p n : Nat} (h : Settled J f p) : Settled J (f ++ [n]) p := h.mono fun s ⟨m, h1, h2, h3⟩ => ⟨m, by simp [h1], h2, h3⟩
def beyond (lim : Option Nat) (p : Nat) : Prop := ∃ l, lim = some l ∧ l ≤ p
instance (lim : Option Nat) (p : Nat) : Decidable (beyond lim p) := match lim with
  | none => isFalse fun ⟨l, h, _⟩ => by cases h
  | some l => if h : l ≤ p then isTrue ⟨l, rfl, h⟩ else isFalse fun ⟨l', h1, h2⟩ => by cases h1; exact h h2
structure Search (J : Nat → List Int) (W R : Nat) (lim : Option Nat) (found : List Nat) (ks : List (Nat × List Int)) (waiting : List Nat) : Prop where
  ko : KO W R (found.map J) ks
  asc : (found ++ waiting).Pairwise (· < ·)
  par : ∀ n, n ∈ found ++ waiting → n = 0 ∨ ∃ f, f ∈ found ∧ ∃ d, d < 2 ∧ n = 2 * f + d
  done : ∀ f, f ∈ found → ∀ d, d < 2 → 2 * f + d ∈ waiting ∨ beyond lim (2 * f + d) ∨ Settled J found (2 * f + d)
  zero : 0 ∈ waiting ∨ beyond lim 0 ∨ Settled J found 0
  below : ∀ f, f ∈ found → ¬ beyond lim f
def kids (n : Nat) : List Nat := if n = 0 then [1] else [2 * n, 2 * n + 1]
theorem Search.start : Search J W R lim [] [] [0] := ⟨.nil, by simp, fun n h => .inl (by simpa using h), fun f h => by simp at h, .inl (by simp), fun f h => by simp at h⟩
theorem Search.mem_lt {found : List Nat} {ks : List (Nat × List Int)} {n : Nat} {rest : List Nat} (h : Search J W R lim found ks (n :: rest)) : ∀ f, f ∈ found → f < n := fun f hf =>
  (List.pairwise_append.1 h.asc).2.2 f hf n (by simp)
/-- a number that is passed over -/
theorem Search.pass {found : List Nat} {ks : List (Nat × List Int)} {n : Nat} {rest : List Nat} (h : Search J W R lim found ks (n :: rest)) (hn : beyond lim n ∨ Settled J found n) : Search J W R lim found ks rest := by
  refine ⟨h.ko, ?_, fun m hm => h.par m ?_, fun f hf d hd => ?_, ?_, h.below⟩
  · exact h.asc.sublist (List.Sublist.append (List.Sublist.refl _) (List.sublist_cons_self _ _))
  · simp only [List.mem_append, List.mem_cons] at hm ⊢
    rcases hm with hm | hm
    · exact .inl hm
    · exact .inr (.inr hm)
  · rcases h.done f hf d hd with q | q
    · rcases List.mem_cons.1 q with q | q
      · rw [q]; exact .inr hn
      · exact .inl q
    · exact .inr q
  · rcases h.zero with q | q
    · rcases List.mem_cons.1 q with q | q
      · rw [q]; exact .inr hn
      · exact .inl q
    · exact .inr q
/-- a number that is kept -/
theorem Search.take {found : List Nat} {ks : List (Nat × List Int)} {n : Nat} {rest : List Nat} (h : Search J W R lim found ks (n :: rest)) (hW : found.length < W) (hJ : (J n).length = W) (hb : ∀ z, z ∈ J n → z.natAbs < 2 ^ R) (hR : 0 < R)
    (hl : ¬ beyond lim n) (hn : ¬ Span (· ∈ (found.map J).map vec) (vec (J n))) : Search J W R lim (found ++ [n]) (keptWith W ks (J n)) (rest ++ kids n) := by
  have hlt := h.mem_lt
  have kid : ∀ m, m ∈ kids n → ∃ d, d < 2 ∧ m = 2 * n + d ∧ n < m := fun m hm => by
    unfold kids at hm
    split at hm
    · exact ⟨1, by decide, by simp at hm; omega, by simp at hm; omega⟩
    · rcases (by simpa using hm : m = 2 * n ∨ m = 2 * n + 1) with e | e
      · exact ⟨0, by decide, by omega, by omega⟩
      · exact ⟨1, by decide, by omega, by omega⟩
  have selfS : Settled J (found ++ [n]) n := .of ⟨n, by simp, Nat.le_refl _, rfl⟩
  have kids2 : ∀ d, d < 2 → 2 * n + d ∈ kids n ∨ Settled J (found ++ [n]) (2 * n + d) := fun d hd => by
    unfold kids
    split
    · rename_i e
      subst e
      match d, hd with
      | 0, _ => exact .inr selfS
      | 1, _ => exact .inl (by simp)
    · match d, hd with
      | 0, _ => exact .inl (by simp)
      | 1, _ => exact .inl (by simp)
  refine ⟨?_, ?_, fun m hm => ?_, fun f hf d hd => ?_, ?_, fun f hf => ?_⟩
  · rw [List.map_append]
    exact h.ko.keep (by simpa using hW) hJ hb hR hn
  · have e : (found ++ [n]) ++ (rest ++ kids n) = (found ++ (n :: rest)) ++ kids n := by simp
    rw [e]
    refine List.pairwise_append.2 ⟨h.asc, ?_, fun a ha b hb => ?_⟩
    · unfold kids; split <;> simp
    · obtain ⟨d, hd, rfl, hk⟩ := kid b hb
      rcases List.mem_append.1 ha with ha | ha
      · have := hlt a ha; omega
      · rcases List.mem_cons.1 ha with ha | ha
        · omega
        · have hpar := h.par a (by simp [ha])
          have hna := (List.pairwise_cons.1 (List.pairwise_append.1 h.asc).2.1).1 a ha
          rcases hpar with q | ⟨f, hf, d', hd', q⟩
          · omega
          · have := hlt f hf; omega
  · rcases List.mem_append.1 hm with hm | hm
    · rcases h.par m (by simp at hm ⊢; rcases hm with q | q <;> simp [q]) with q | ⟨f, hf, q⟩
      · exact .inl q
      · exact .inr ⟨f, by simp [hf], q⟩
    · rcases List.mem_append.1 hm with hm | hm
      · rcases h.par m (by simp [hm]) with q | ⟨f, hf, q⟩
        · exact .inl q
        · exact .inr ⟨f, by simp [hf], q⟩
      · obtain ⟨d, hd, e, -⟩ := kid m hm
        exact .inr ⟨n, by simp, d, hd, e⟩
  · rcases List.mem_append.1 hf with hf | hf
    · rcases h.done f hf d hd with q | q | q
      · rcases List.mem_cons.1 q with q | q
        · exact .inr (.inr (by rw [q]; exact selfS))
        · exact .inl (by simp [q])
      · exact .inr (.inl q)
      · exact .inr (.inr q.more)
    · rw [List.mem_singleton.1 hf]
      rcases kids2 d hd with q | q
      · exact .inl (by simp [q])
      · exact .inr (.inr q)
  · rcases h.zero with q | q | q
    · rcases List.mem_cons.1 q with q | q
      · exact .inr (.inr (by rw [q]; exact selfS))
      · exact .inl (by simp [q])
    · exact .inr (.inl q)
    · exact .inr (.inr q.more)
  · rcases List.mem_append.1 hf with hf | hf
    · exact h.below f hf
    · rw [List.mem_singleton.1 hf]; exact hl
/-- how great the numbers are -/
theorem Search.pow {found : List Nat} {ks : List (Nat × List Int)} {waiting : List Nat} (h : Search J W R lim found ks waiting) : ∀ (i n : Nat), found[i]? = some n → n < 2 ^ i := by
  intro i
  induction i using Nat.strongRecOn with
  | ind i ih =>
    intro n hn
    have hi := (List.getElem?_eq_some_iff.1 hn).1
    have hm := List.mem_of_getElem? hn
    rcases h.par n (by simp [hm]) with q | ⟨f, hf, d, hd, q⟩
    · rw [q]; exact two_pow_pos i
    · obtain ⟨l, hl, e⟩ := List.getElem_of_mem hf
      by_cases h0 : n = 0
      · rw [h0]; exact two_pow_pos i
      · have hfn : f < n := by omega
        have hli : l < i := by
          rcases Nat.lt_or_ge l i with q | q
          · exact q
          · exfalso
            have hs := (List.pairwise_append.1 h.asc).1
            rcases Nat.lt_or_ge i l with q2 | q2
            · have := List.pairwise_iff_getElem.1 hs i l hi hl q2
              rw [e] at this
              have e2 : found[i] = n := (List.getElem?_eq_some_iff.1 hn).2
              omega
            · have : l = i := by omega
              subst this
              have e2 : found[l] = n := (List.getElem?_eq_some_iff.1 hn).2
              omega
        have := ih l hli f (by rw [← e]; exact List.getElem?_eq_getElem hl)
        have h2 : 2 ^ (l + 1) ≤ 2 ^ i := Nat.pow_le_pow_right (by decide) (by omega)
        rw [Nat.pow_succ] at h2
        omega
theorem Search.kid_pow {found : List Nat} {ks : List (Nat × List Int)} {waiting : List Nat} (h : Search J W R lim found ks waiting) {f d : Nat} (hf : f ∈ found) (hd : d < 2) : 2 * f + d < 2 ^ found.length := by
  obtain ⟨l, hl, e⟩ := List.getElem_of_mem hf
  have := h.pow l f (by rw [← e]; exact List.getElem?_eq_getElem hl)
  have h2 : 2 ^ (l + 1) ≤ 2 ^ found.length := Nat.pow_le_pow_right (by decide) (by omega)
  rw [Nat.pow_succ] at h2
  omega
theorem Search.wait_pow {found : List Nat} {ks : List (Nat × List Int)} {waiting : List Nat} (h : Search J W R lim found ks waiting) {n : Nat} (hn : n ∈ waiting) : n < 2 ^ found.length := by
  rcases h.par n (by simp [hn]) with q | ⟨f, hf, d, hd, q⟩
  · rw [q]; exact two_pow_pos _
  · rw [q]; exact h.kid_pow hf hd
/-- the end: what is known of each place -/
theorem Search.end_ {found : List Nat} {ks : List (Nat × List Int)} (h : Search J W R lim found ks []) {f d : Nat} (hf : f ∈ found) (hd : d < 2) : beyond lim (2 * f + d) ∨ Settled J found (2 * f + d) := by
  rcases h.done f hf d hd with q | q
  · simp at q
  · exact q
/-- the numbers up to a place are the first ones -/
def upTo (found : List Nat) (p : Nat) : Nat := (found.filter fun m => decide (m ≤ p)).length
theorem upTo_take : ∀ (found : List Nat) (p : Nat), found.Pairwise (· < ·) → found.filter (fun m => decide (m ≤ p)) = found.take (upTo found p)
  | [], p, _ => rfl
  | n :: l, p, h => by
    have hc := List.pairwise_cons.1 h
    have ih := upTo_take l p hc.2
    unfold upTo at ih ⊢
    by_cases hn : n ≤ p
    · rw [List.filter_cons_of_pos (by simpa using hn), List.length_cons, List.take_succ_cons, ← ih]
    · have : (n :: l).filter (fun m => decide (m ≤ p)) = [] := by
        rw [List.filter_eq_nil_iff]
        intro a ha
        rcases List.mem_cons.1 ha with e | e
        · simpa [e] using hn
        · have := hc.1 a e
          simp; omega
      rw [this]; rfl
theorem settled_take {found : List Nat} {p : Nat} (hs : found.Pairwise (· < ·)) (h : Settled J found p) : Span (· ∈ ((found.map J).take (upTo found p)).map vec) (vec (J p)) := by
  refine h.mono fun s ⟨m, h1, h2, h3⟩ => ?_
  rw [← List.map_take, ← upTo_take found p hs, h3]
  exact List.mem_map.2 ⟨J m, List.mem_map.2 ⟨m, List.mem_filter.2 ⟨h1, by simpa using h2⟩, rfl⟩, rfl⟩
theorem upTo_gt {found : List Nat} {p i n : Nat} (hs : found.Pairwise (· < ·)) (e : found[i]? = some n) (h : p < n) : upTo found p ≤ i := by
  rcases Nat.lt_or_ge i (upTo found p) with q | q
  · exfalso
    have h1 : (found.take (upTo found p))[i]? = some n := by rw [List.getElem?_take, if_pos q]; exact e
    rw [← upTo_take found p hs] at h1
    have := (List.mem_filter.1 (List.mem_of_getElem? h1)).2
    have : n ≤ p := by simpa using this
    omega
  · exact q
/-! ### which numbers are found, said by the values alone -/
def Char (J : Nat → List Int) (found : List Nat) : Prop := ∀ n, n ∈ found ↔ (n = 0 ∨ n / 2 ∈ found) ∧ ¬ Span (fun s => ∃ m, m ∈ found ∧ m < n ∧ s = vec (J m)) (vec (J n))
theorem Search.char {found : List Nat} {ks : List (Nat × List Int)} (h : Search J W R none found ks []) (hW : found.length ≤ W) : Char J found := by
  have nob : ∀ p, ¬ beyond none p := fun p ⟨l, e, _⟩ => by cases e
  have hs := (List.pairwise_append.1 h.asc).1
  intro n
  constructor
  · intro hn
    refine ⟨?_, fun hsp => ?_⟩
    · rcases h.par n (by simp [hn]) with q | ⟨f, hf, d, hd, q⟩
      · exact .inl q
      · right
        have : n / 2 = f := by omega
        rw [this]; exact hf
    · obtain ⟨i, hi, e⟩ := List.getElem_of_mem hn
      have hf := h.ko.free (by simpa using hW)
      have e1 : (found.map J).map vec = ((found.take i).map J).map vec ++ vec (J n) :: ((found.drop (i + 1)).map J).map vec := by
        rw [← e, ← List.map_cons, ← List.map_cons, ← List.map_append, ← List.map_append]
        congr 2
        rw [List.getElem_cons_drop, List.take_append_drop]
      refine hf _ _ _ e1 (hsp.mono fun s ⟨m, h1, h2, h3⟩ => .inr ?_)
      rw [h3]
      refine List.mem_map.2 ⟨J m, List.mem_map.2 ⟨m, ?_, rfl⟩, rfl⟩
      obtain ⟨j, hj, ej⟩ := List.getElem_of_mem h1
      have hji : j < i := by
        rcases Nat.lt_or_ge j i with q | q
        · exact q
        · exfalso
          rcases Nat.lt_or_ge i j with q2 | q2
          · have := List.pairwise_iff_getElem.1 hs i j hi hj q2; omega
          · have : j = i := by omega
            subst this; omega
      rw [← ej]
      exact List.mem_take_iff_getElem.2 ⟨j, by omega, rfl⟩
  · rintro ⟨h1, h2⟩
    by_cases hn : n ∈ found
    · exact hn
    · exfalso
      apply h2
      have st : Settled J found n := by
        rcases h1 with q | q
        · rw [q]
          rcases h.zero with z | z | z
          · simp at z
          · exact absurd z (nob _)
          · exact z
        · rcases h.end_ q (d := n % 2) (Nat.mod_lt _ (by decide)) with z | z
          · exact absurd z (nob _)
          · rwa [Nat.div_add_mod] at z
      refine st.mono fun s ⟨m, q1, q2, q3⟩ => ⟨m, q1, ?_, q3⟩
      rcases Nat.lt_or_ge m n with q | q
      · exact q
      · have : m = n := by omega
        subst this; exact absurd q1 hn
theorem asc_eq : ∀ (A B : List Nat), A.Pairwise (· < ·) → B.Pairwise (· < ·) → (∀ n, n ∈ A ↔ n ∈ B) → A = B
  | [], [], _, _, _ => rfl
  | [], b :: B, _, _, h => by have := (h b).2 (by simp); simp at this
  | a :: A, [], _, _, h => by have := (h a).1 (by simp); simp at this
  | a :: A, b :: B, hA, hB, h => by
    have hA' := List.pairwise_cons.1 hA
    have hB' := List.pairwise_cons.1 hB
    have e : a = b := by
      have h1 := (h a).1 (by simp)
      have h2 := (h b).2 (by simp)
      rcases List.mem_cons.1 h1 with q | q
      · exact q
      · rcases List.mem_cons.1 h2 with q2 | q2
        · exact q2.symm
        · have := hA'.1 b q2
          have := hB'.1 a q
          omega
    subst e
    rw [asc_eq A B hA'.2 hB'.2 fun n => ?_]
    constructor
    · intro hn
      rcases List.mem_cons.1 ((h n).1 (by simp [hn])) with q | q
      · have := hA'.1 n hn; omega
      · exact q
    · intro hn
      rcases List.mem_cons.1 ((h n).2 (by simp [hn])) with q | q
      · have := hB'.1 n hn; omega
      · exact q
end L2.Elim
end S_HalvesSpan
section S_L8
set_option exponentiation.threshold 20000
set_option maxRecDepth 100000
set_option maxHeartbeats 4000000
namespace L2.EH
open PySem PySem.Spec PyProof.Rows StX
open L2.Elim (at0 thin gcdRow clr1 cleared comb KO)
/-! ### // that leaves nothing, by any great int -/
def CDivE (i j : Int) : Prop := j ≠ 0 ∧ j.natAbs.log2 < 9000 ∧ j ∣ i
theorem op_fdivE {X : Cx} : OpR X (binaryOp .FloorDiv) (rI CDivE fun i j => .int (i / j)) := opI fun i j _ _ _ _ _ hc q =>
  floordiv_int hc.1 (by rw [Int.fdiv_eq_ediv_of_dvd hc.2.2]; exact q) (.inl (PyProof.noPylong_of_log2 hc.2.1))
theorem divE_of {i j : Int} (h0 : j ≠ 0) (hb : j.natAbs < 2 ^ 9000) (hd : j ∣ i) : CDivE i j := ⟨h0, PySem.Flt.log2_lt_of (by decide) hb, hd⟩
/-! ### lists added, whichever they are -/
def rCatL (K : PySem.W.Frag) : R2 := fun x y H Q => ∃ l b xs zs, x = .ref l ∧ y = .ref b ∧ H l = some (.lst xs) ∧ H b = some (.lst zs) ∧ xs.length + zs.length ≤ sizeLine ∧ ∀ p, H p = none → Q (.ref p) (upd H p (.lst (xs ++ zs)))
/-! ### the law's elimination -/
def jointAt (Ls : List LR) (z : Nat) : List Int := (Ls.map fun L => linesAt L z).flatten
def LawsAt (K : PySem.W.Frag) (H : Hp) (l : Addr) (Ls : List LR) : Prop := ∃ xs, SqL K H l xs ∧ DpAll K H xs (Ls.map lawD)
theorem LawsAt.same {K : PySem.W.Frag} {H H' : Hp} {l : Addr} {Ls : List LR} (s : Same H H') (h : LawsAt K H l Ls) : LawsAt K H' l Ls := by
  obtain ⟨xs, h1, h2⟩ := h
  exact ⟨xs, s.seq h1, dpAll_same s h2⟩
def spJoint (K : PySem.W.Frag) : Sp := fun vs H Q _ => ∃ (l : Addr) (Ls : List LR) (z : Nat), vs = [.ref l, .int (z : Int)] ∧ LawsAt K H l Ls ∧ (∀ L, L ∈ Ls → ∃ n b, LRB L n b ∧ b ≤ 100) ∧ z < 2 ^ 1100 ∧ (∀ i, (jointAt (Ls.take i) z).length ≤ 900) ∧
  ∀ H' p, Same H H' → H p = none → H' p = some (.lst ((jointAt Ls z).map V.int)) → Q (.ref p) H'
theorem scJoint : FnScope ["_law_rules", "_law_at_here", "_law_found", "_law_some"] ["_law_rules", "_law_at_here"] (defScope sJoint) := ⟨rfl, rfl, rfl, by decide +kernel, rfl, by decide +kernel, by decide +kernel⟩
def spDivisor : Sp := fun vs H Q _ => ∃ a b : Int, vs = [.int a, .int b] ∧ Q (.int ((Nat.gcd a.natAbs b.natAbs : Nat) : Int)) H
theorem scDivisor : FnScope ["_law_one", "_law_two", "_law_great", "_law_small_here"] ["_law_one", "_law_two"] (defScope sDivisor) := ⟨rfl, rfl, rfl, by decide +kernel, rfl, by decide +kernel, by decide +kernel⟩
def spThin (K : PySem.W.Frag) : Sp := fun vs H Q _ => ∃ (l : Addr) (r : List Int), vs = [.ref l] ∧ SqL K H l (r.map V.int) ∧ r.length ≤ 900 ∧ (∀ z, z ∈ r → z.natAbs < 2 ^ 9000) ∧
  ∀ H' p, Same H H' → (p = l ∨ H p = none) → SqL K H' p ((thin r).map V.int) → Q (.ref p) H'
theorem scThin : FnScope ["_law_row_here", "_law_common", "_law_item"] ["_law_row_here"] (defScope sThin) := ⟨rfl, rfl, rfl, by decide +kernel, rfl, by decide +kernel, by decide +kernel⟩
def spFraction : Sp := fun vs H Q _ => ∃ t b : Int, vs = [.int t, .int b] ∧ b ≠ 0 ∧ b.natAbs < 2 ^ 9000 ∧ ∀ p, H p = none → Q (.ref p) (upd H p (.tup [.int (L2.Elim.frac t b).1, .int (L2.Elim.frac t b).2]))
theorem scFraction : FnScope ["_law_top", "_law_bottom", "_law_common"] ["_law_top", "_law_bottom"] (defScope sFraction) := ⟨rfl, rfl, rfl, by decide +kernel, rfl, by decide +kernel, by decide +kernel⟩
abbrev Kept2 := List (Nat × List Int)
def KeptAt (K : PySem.W.Frag) (H : Hp) (k : Addr) (ks : Kept2) : Prop := ∃ xs : List Addr, SqL K H k (xs.map V.ref) ∧ xs.length = ks.length ∧ ∀ (i : Nat) x q, xs[i]? = some x → ks[i]? = some q → ∃ c, SqT K H x [.int (q.1 : Int), .ref c] ∧ SqL K H c (q.2.map V.int)
theorem KeptAt.same {K : PySem.W.Frag} {H H' : Hp} {k : Addr} {ks : Kept2} (s : Same H H') (h : KeptAt K H k ks) : KeptAt K H' k ks := by
  obtain ⟨xs, h1, h2, h3⟩ := h
  exact ⟨xs, s.seq h1, h2, fun i x q e1 e2 => by obtain ⟨c, a, b⟩ := h3 i x q e1 e2; exact ⟨c, same_tup s a, s.seq b⟩⟩
def spCleared (K : PySem.W.Frag) : Sp := fun vs H Q _ => ∃ (l k : Addr) (r : List Int) (ks : Kept2) (W R : Nat) (us : List (List Int)), vs = [.ref l, .ref k] ∧ SqL K H l (r.map V.int) ∧ KeptAt K H k ks ∧ KO W R us ks ∧ us.length ≤ W ∧ r.length = 2 * W + 1 ∧ W ≤ 400 ∧ (∀ z, z ∈ r → z.natAbs < 2 ^ R) ∧ 2 ^ ks.length * (R + 1) ≤ 9000 ∧
  ∀ H' p, Same H H' → (p = l ∨ H p = none) → SqL K H' p ((cleared r ks).map V.int) → Q (.ref p) H'
theorem scCleared : FnScope ["_law_row_here", "_law_kept_here", "_law_place", "_law_other", "_law_one", "_law_two", "_law_j"] ["_law_row_here", "_law_kept_here"] (defScope sCleared) := ⟨rfl, rfl, rfl, by decide +kernel, rfl, by decide +kernel, by decide +kernel⟩
theorem jointAt_snoc (Ls : List LR) (L : LR) (z : Nat) : jointAt (Ls ++ [L]) z = jointAt Ls z ++ linesAt L z := by simp [jointAt]
theorem iabs (i : Int) : (if i < 0 then -i else i) = ((i.natAbs : Nat) : Int) := by split <;> omega
section
variable {P : Program} {w : World} {K : PySem.W.Frag} {mg : Str → Option Value} {base : Heap}
theorem ok_joint {f fL : Addr} {fd fdL : FuncData} (F : Fun K "_law_joint" "_law_joint" sJoint f fd) (FL : Fn' P w K mg base 2 "_law_lines" fL fdL ["_law_some", "_law_at_here"] (spLines K)) :
    FnOk P w K mg base CX0 3 f fd ["_law_rules", "_law_at_here"] (spJoint K) := by
  refine F.ok scJoint (fun vs H Q E h => ?_) (fun cdv A outer s H vs Q E hr h => ?_)
  · obtain ⟨l, Ls, z, rfl, _⟩ := h
    rfl
  · obtain ⟨l, Ls, z, rfl, ⟨xs, hl, hx⟩, hB, hz, hlen, k⟩ := h
    have nd := scJoint.nd
    have hxl : xs.length = Ls.length := by rw [dpAll_len hx, List.length_map]
    refine ⟨_, pss_cons (ps_set (i := 2) nd rfl (Or.inl rfl) (pe_lst pa_nil))
      (pss_cons (ps_for PassesOwn.never rfl (pi_list (pv 0)) (pg_name (i := 3) nd rfl (Or.inl rfl))
        (pss_one (ps_set (i := 2) nd rfl (Or.inl rfl) (pe_op op_cat (pv 2) (pe_call FL.ok (by exact hr) (by rfl) FL.m FL.k FL.b .nil pass0 (pa_cons (pv 3) (pa_cons (pv 1) pa_nil)))))))
      (pss_one (ps_ret (pv 2)))), ?_⟩
    refine ⟨by show 0 ≤ sizeLine; decide, fun t nt => ?_⟩
    have s0 := same_new (o := .lst []) nt
    refine ⟨_, rfl, l, rfl, ⟨_, s0.seq hl⟩, ?_⟩
    refine for_it (walk_list (xs := xs)) (fun i σ Hc => Same H Hc ∧ ∃ (q : Addr) (y : Option V), σ = [some (.ref l), some (.int (z : Int)), some (.ref q), y] ∧ H q = none ∧ Hc q = some (.lst ((jointAt (Ls.take i) z).map V.int))) ⟨s0, t, none, rfl, nt, by rw [upd_same]; rfl⟩ (fun i σ Hc _ h => h.1.seq hl) ?_ ?_
    · rintro i x σ H0 Hc hi ⟨s1, q, y, rfl, nq, hq⟩ ⟨rfl, hx'⟩
      obtain ⟨d, hd1, hd2⟩ := dpAll_get' hx hx'
      rw [List.getElem?_map] at hd1
      cases eL : Ls[i]? with
      | none => rw [eL] at hd1; cases hd1
      | some L =>
        rw [eL] at hd1
        cases hd1
        obtain ⟨n, b, hLB, hb⟩ := hB L (List.mem_of_getElem? eL)
        refine ⟨_, rfl, _, rfl, _, rfl, x, L, n, b, z, rfl, dp_same s1 hd2, hLB, hb, hz, fun H2 p s2 np hp => ?_⟩
        have tk := take_snoc' Ls i L eL
        have hlen1 := hlen (i + 1)
        rw [tk, jointAt_snoc, List.length_append] at hlen1
        refine ⟨q, p, _, _, rfl, rfl, s2 _ _ hq, hp, Nat.le_of_lt (small1000 (by rw [List.length_map, List.length_map]; omega)), fun p2 np2 => ?_⟩
        have s12 := s1.trans s2
        exact ⟨s12.trans (same_new np2), p2, _, rfl, s12.free np2, by rw [upd_same, tk, jointAt_snoc, List.map_append]⟩
    · rintro σ Hc ⟨s1, q, y, rfl, nq, hq⟩
      rw [hxl, List.take_length] at hq
      exact ⟨_, rfl, k Hc q s1 nq hq⟩
theorem ok_divisor {f : Addr} {fd : FuncData} (F : Fun K "_law_divisor" "_law_divisor" sDivisor f fd) (B : BN mg) : FnOk P w K mg base CX0 1 f fd ["_law_one", "_law_two"] spDivisor := by
  refine F.ok scDivisor (fun vs H Q E h => ?_) (fun cdv A outer s H vs Q E hr h => ?_)
  · obtain ⟨a, b, rfl, _⟩ := h
    rfl
  · obtain ⟨a, b, rfl, k⟩ := h
    have nd := scDivisor.nd
    refine ⟨_, pss_cons (ps_par (i := 2) (j := 3) (by rfl) nd rfl rfl (by decide) rfl rfl (pa_cons (pe_callB call_abs (by rfl) B.abs (by decide +kernel) (pa_cons (pv 0) pa_nil)) (pa_cons (pe_callB call_abs (by rfl) B.abs (by decide +kernel) (pa_cons (pv 1) pa_nil)) pa_nil)) (by rfl))
      (pss_cons (ps_while PassesOwn.never (pt_cmpR op_gt (pv 3) pe_int (nomark _))
        (pss_one (ps_par (i := 2) (j := 3) (by rfl) nd rfl rfl (by decide) rfl rfl (pa_cons (pv 3) (pa_cons (pe_op op_mod (pe_callTy call_int1 (by rfl) B.int (by decide +kernel) (pa_cons (pv 2) pa_nil)) (pv 3)) pa_nil)) (by rfl))))
      (pss_one (ps_ret (pv 2)))), ?_⟩
    refine ⟨_, rfl, _, rfl, _, rfl, _, rfl, _, _, rfl, ?_⟩
    rw [iabs, iabs]
    refine while_by (fun σ H' => H' = H ∧ ∃ (g s : Nat), σ = [some (.int a), some (.int b), some (.int (g : Int)), some (.int (s : Int))] ∧ Nat.gcd g s = Nat.gcd a.natAbs b.natAbs)
      (fun (σ : L2.St) _ => match σ[3]? with
        | some (some (V.int z)) => z.toNat
        | _ => 0) ⟨rfl, a.natAbs, b.natAbs, rfl, rfl⟩ ?_ ?_
    · rintro σ H' ⟨rfl, g, s, rfl, hg⟩
      refine ⟨_, rfl, _, _, rfl, rfl, _, rfl, ?_⟩
      by_cases h0 : 0 < s
      · refine iteT' (decide_eq_true (by omega)) ?_
        refine ⟨_, rfl, _, rfl, .inl ⟨_, rfl, _, rfl, _, _, rfl, rfl, (by show (0 : Int) < (s : Int); omega), _, _, rfl, ⟨rfl, s, g % s, ?_, ?_⟩, ?_⟩⟩
        · show [some (V.int a), some (V.int b), some (V.int (s : Int)), some (V.int ((g : Int) % (s : Int)))] = _
          rw [Int.natCast_emod]
        · rw [← hg, Nat.gcd_comm g s, Nat.gcd_rec s g, Nat.gcd_comm]
        · show ((g : Int) % (s : Int)).toNat < (s : Int).toNat
          have := Nat.mod_lt g h0
          rw [← Int.natCast_emod]
          omega
      · refine iteF' (decide_eq_false (by omega)) ?_
        have e : s = 0 := by omega
        rw [e, Nat.gcd_zero_right] at hg
        refine ⟨_, rfl, ?_⟩
        rw [hg]; exact k
    · rintro σ H' Q1 Q2 hq ⟨v, e1, x, y, e2, e3, c, e4, h⟩
      exact ⟨v, e1, x, y, e2, e3, c, e4, hq _ _ h⟩
end
end L2.EH
end S_L8
section S_L9
set_option exponentiation.threshold 20000
set_option maxRecDepth 100000
set_option maxHeartbeats 4000000
namespace L2.EH
open PySem PySem.Spec PyProof.Rows StX
open L2.Elim (at0 thin gcdRow clr1 cleared comb KO)
theorem gcdRow_take (r : List Int) (i : Nat) (z : Int) (h : r[i]? = some z) : gcdRow (r.take (i + 1)) = Nat.gcd (gcdRow (r.take i)) z.natAbs := by
  rw [take_snoc' r i z h, L2.Elim.gcdRow_snoc]
theorem gcdRow_le {r : List Int} {n : Nat} (h : ∀ z, z ∈ r → z.natAbs < 2 ^ n) (hg : 1 < gcdRow r) : gcdRow r < 2 ^ n := by
  by_cases h0 : ∀ z, z ∈ r → z = 0
  · exfalso
    have : ∀ (l : List Int), (∀ z, z ∈ l → z = 0) → l.foldl (fun g z => Nat.gcd g z.natAbs) 0 = 0 := by
      intro l
      induction l with
      | nil => intro _; rfl
      | cons x l ih =>
        intro hl
        simp only [List.foldl_cons, hl x (by simp)]
        exact ih fun z hz => hl z (by simp [hz])
    have := this r h0
    unfold gcdRow at hg
    omega
  · obtain ⟨z, hz, hz0⟩ : ∃ z, z ∈ r ∧ z ≠ 0 := by
      refine Classical.byContradiction fun h1 => h0 fun z hz => ?_
      exact Classical.byContradiction fun h2 => h1 ⟨z, hz, h2⟩
    have hd := L2.Elim.gcdRow_dvd hz
    have h1 : gcdRow r ≤ z.natAbs := Nat.le_of_dvd (by omega) (by have := Int.natAbs_dvd_natAbs.2 hd; simpa using this)
    have := h z hz
    omega
section
variable {P : Program} {w : World} {K : PySem.W.Frag} {mg : Str → Option Value} {base : Heap}
theorem ok_thin {f fD : Addr} {fd fdD : FuncData} (F : Fun K "_law_thin" "_law_thin" sThin f fd) (FD : Fn' P w K mg base 1 "_law_divisor" fD fdD ["_law_one", "_law_two"] spDivisor) :
    FnOk P w K mg base CX0 2 f fd ["_law_row_here"] (spThin K) := by
  refine F.ok scThin (fun vs H Q E h => ?_) (fun cdv A outer s H vs Q E hr h => ?_)
  · obtain ⟨l, r, rfl, _⟩ := h
    rfl
  · obtain ⟨l, r, rfl, hl, hlen, hb, k⟩ := h
    have nd := scThin.nd
    refine ⟨_, pss_cons (ps_set (i := 1) nd rfl (Or.inr rfl) pe_int)
      (pss_cons (ps_for PassesOwn.never rfl (pi_list (pv 0)) (pg_name (i := 2) nd rfl (Or.inl rfl))
        (pss_one (ps_set (i := 1) nd rfl (Or.inr rfl) (pe_call FD.ok (by exact hr) (by rfl) FD.m FD.k FD.b .nil pass0 (pa_cons (pv 1) (pa_cons (pv 2) pa_nil))))))
      (pss_one (ps_ret (pe_ifExp (pt_cmpR op_gt (pv 1) pe_int (nomark _)) (pe_lc (own := [("_law_item", 2)]) (g := gName 2) (tt := tYes) rfl nd (pi_list (pv 0)) (blkOk_by (own := [("_law_item", 2)]) (N := ["_law_row_here", "_law_common", "_law_item"]) (sc := defScope sThin) (by decide +kernel)) (fun _ _ _ _ _ => pg_name (i := 2) nd rfl (Or.inl rfl) (Or.inr rfl)) (fun _ _ _ _ _ => pts_nil)
          (fun _ _ _ _ _ => pe_op op_fdivE (pv 2) (pv 1))) (pv 0))))), ?_⟩
    refine ⟨_, rfl, l, rfl, ⟨_, hl⟩, ?_⟩
    refine for_it (walk_list (xs := r.map V.int)) (fun i σ Hc => Hc = H ∧ ∃ y : Option V, σ = [some (.ref l), some (.int ((gcdRow (r.take i) : Nat) : Int)), y]) ⟨rfl, none, rfl⟩ (fun i σ Hc _ h => by rw [h.1]; exact hl) ?_ ?_
    · rintro i x σ H0 Hc hi ⟨rfl, y, rfl⟩ ⟨rfl, hx'⟩
      rw [List.length_map] at hi
      have e : r[i]? = some r[i] := List.getElem?_eq_getElem hi
      rw [List.getElem?_map, e] at hx'
      cases hx'
      refine ⟨_, rfl, _, rfl, _, _, rfl, rfl, some (.int r[i]), ?_⟩
      rw [gcdRow_take r i _ e, natCast_natAbs]; rfl
    · rintro σ Hc ⟨rfl, y, rfl⟩
      rw [List.length_map, List.take_length]
      refine ⟨_, rfl, _, _, rfl, rfl, _, rfl, ?_⟩
      by_cases h1 : 1 < gcdRow r
      · refine iteT' (decide_eq_true (by omega)) ?_
        have et : thin r = r.map (fun z => z / (gcdRow r : Int)) := by unfold thin; rw [if_pos h1]
        have hg := gcdRow_le hb h1
        refine ⟨_, rfl, l, rfl, ⟨_, hl⟩, fun D nD => ?_⟩
        refine lc_out (walk_list (xs := r.map V.int)) (fun i Hd => Grow Hc D (((thin r).take i).map V.int) Hd) (Grow.start nD) (fun i Hd _ g => g.s.seq hl) ?_ ?_
        · rintro i x H0 Hd hi g ⟨rfl, hx'⟩
          rw [List.length_map] at hi
          have e : r[i]? = some r[i] := List.getElem?_eq_getElem hi
          rw [List.getElem?_map, e] at hx'
          cases hx'
          have cd : CDivE r[i] ((gcdRow r : Nat) : Int) := divE_of (by omega) (by rw [natCast_natAbs]; exact hg) (L2.Elim.gcdRow_dvd (List.getElem_mem hi))
          refine ⟨rfl, _, rfl, _, rfl, _, _, rfl, rfl, cd, _, g.d, small1000 (by rw [List.length_map, List.length_take]; omega), ?_⟩
          have := g.step nD (V.int (r[i] / ((gcdRow r : Nat) : Int)))
          rw [take_snoc' (thin r) i (r[i] / ((gcdRow r : Nat) : Int)) (by rw [et, List.getElem?_map, e]; rfl), List.map_append]
          exact this
        · intro Hd g
          rw [List.length_map, List.take_of_length_le (by rw [L2.Elim.thin_length]; exact Nat.le_refl _)] at g
          exact k Hd D g.s (.inr nD) (SqL.of g.d)
      · refine iteF' (decide_eq_false (by omega)) ?_
        have et : thin r = r := by unfold thin; rw [if_neg h1]
        exact ⟨_, rfl, k Hc l (Same.refl _) (.inl rfl) (by rw [et]; exact hl)⟩
theorem ok_fraction {f fD : Addr} {fd fdD : FuncData} (F : Fun K "_law_fraction" "_law_fraction" sFraction f fd) (FD : Fn' P w K mg base 1 "_law_divisor" fD fdD ["_law_one", "_law_two"] spDivisor) :
    FnOk P w K mg base CX0 2 f fd ["_law_top", "_law_bottom"] spFraction := by
  refine F.ok scFraction (fun vs H Q E h => ?_) (fun cdv A outer s H vs Q E hr h => ?_)
  · obtain ⟨t, b, rfl, _⟩ := h
    rfl
  · obtain ⟨t, b, rfl, h0, hb, k⟩ := h
    have nd := scFraction.nd
    refine ⟨_, pss_cons (ps_set (i := 2) nd rfl (Or.inl rfl) (pe_op op_mul (pe_call FD.ok (by exact hr) (by rfl) FD.m FD.k FD.b .nil pass0 (pa_cons (pv 0) (pa_cons (pv 1) pa_nil))) (pe_ifExp (pt_cmpR op_gt (pv 1) pe_int (nomark _)) pe_int (pe_un un_neg pe_int))))
      (pss_one (ps_ret (pe_tup (pa_cons (pe_op op_fdivE (pv 0) (pv 2)) (pa_cons (pe_op op_fdivE (pv 1) (pv 2)) pa_nil))))), ?_⟩
    have g0 : 0 < Nat.gcd t.natAbs b.natAbs := Nat.gcd_pos_of_pos_right _ (Int.natAbs_pos.2 h0)
    have gle : Nat.gcd t.natAbs b.natAbs ≤ b.natAbs := Nat.le_of_dvd (Int.natAbs_pos.2 h0) (Nat.gcd_dvd_right _ _)
    have gt : ((Nat.gcd t.natAbs b.natAbs : Nat) : Int) ∣ t := Int.natAbs_dvd_natAbs.1 (by simpa using Nat.gcd_dvd_left t.natAbs b.natAbs)
    have gb : ((Nat.gcd t.natAbs b.natAbs : Nat) : Int) ∣ b := Int.natAbs_dvd_natAbs.1 (by simpa using Nat.gcd_dvd_right t.natAbs b.natAbs)
    have ek : L2.Elim.frac t b = (t / (((Nat.gcd t.natAbs b.natAbs : Nat) : Int) * L2.Elim.fracSign b), b / (((Nat.gcd t.natAbs b.natAbs : Nat) : Int) * L2.Elim.fracSign b)) := rfl
    rw [ek] at k
    refine ⟨_, rfl, _, rfl, t, b, rfl, _, rfl, _, _, rfl, rfl, _, rfl, ?_⟩
    generalize hg : Nat.gcd t.natAbs b.natAbs = g at *
    by_cases hp : 0 < b
    · have es : L2.Elim.fracSign b = 1 := by unfold L2.Elim.fracSign; rw [if_pos hp]
      rw [es] at k
      refine iteT' (decide_eq_true hp) ⟨_, _, rfl, rfl, .inr ⟨by decide, by decide⟩, ?_⟩
      have c1 : CDivE t ((g : Int) * 1) := divE_of (by omega) (by rw [Int.mul_one, natCast_natAbs]; omega) (by rw [Int.mul_one]; exact gt)
      have c2 : CDivE b ((g : Int) * 1) := divE_of (by omega) (by rw [Int.mul_one, natCast_natAbs]; omega) (by rw [Int.mul_one]; exact gb)
      exact ⟨_, rfl, _, rfl, _, _, rfl, rfl, c1, _, rfl, _, rfl, _, _, rfl, rfl, c2, by show 2 ≤ sizeLine; decide, fun p np => k p np⟩
    · have es : L2.Elim.fracSign b = -1 := by unfold L2.Elim.fracSign; rw [if_neg hp]
      rw [es] at k
      refine iteF' (decide_eq_false hp) ⟨_, rfl, _, _, rfl, rfl, .inr ⟨by decide, by decide⟩, ?_⟩
      have en : (g : Int) * -1 = -(g : Int) := by omega
      have c1 : CDivE t ((g : Int) * -1) := divE_of (by omega) (by rw [en, Int.natAbs_neg, natCast_natAbs]; omega) (by rw [en]; exact Int.neg_dvd.2 gt)
      have c2 : CDivE b ((g : Int) * -1) := divE_of (by omega) (by rw [en, Int.natAbs_neg, natCast_natAbs]; omega) (by rw [en]; exact Int.neg_dvd.2 gb)
      exact ⟨_, rfl, _, rfl, _, _, rfl, rfl, c1, _, rfl, _, rfl, _, _, rfl, rfl, c2, by show 2 ≤ sizeLine; decide, fun p np => k p np⟩
theorem ok_cleared {f fT : Addr} {fd fdT : FuncData} (F : Fun K "_law_cleared" "_law_cleared" sCleared f fd) (B : BN mg) (FT : Fn' P w K mg base 2 "_law_thin" fT fdT ["_law_row_here"] (spThin K)) :
    FnOk P w K mg base CX0 3 f fd ["_law_row_here", "_law_kept_here"] (spCleared K) := by
  refine F.ok scCleared (fun vs H Q E h => ?_) (fun cdv A outer s H vs Q E hr h => ?_)
  · obtain ⟨l, k, r, ks, W, R, us, rfl, _⟩ := h
    rfl
  · obtain ⟨l, kk, r, ks, W, R, us, rfl, hl, hK, hKO, hW, hrl, hW4, hrb, hbits, k⟩ := h
    obtain ⟨xs, hk1, hk2, hk3⟩ := id hK
    have nd := scCleared.nd
    refine ⟨_, pss_cons (ps_for PassesOwn.never rfl (pi_list (pv 1)) (pg_tup rfl (pgs_cons (pg_name (i := 2) nd rfl (Or.inl rfl)) (pgs_cons (pg_name (i := 3) nd rfl (Or.inr rfl)) pgs_nil)))
        (pss_one (ps_if (pt_cmpR op_ne (pe_ix ix_list (pv 0) (pv 2) (fun _ _ => rfl)) pe_int (nomark _))
          (pss_cons (ps_asg (pe_tup (pa_cons (pe_ix ix_list (pv 3) (pv 2) (fun _ _ => rfl)) (pa_cons (pe_ix ix_list (pv 0) (pv 2) (fun _ _ => rfl)) pa_nil))) (pg_tup rfl (pgs_cons (pg_name (i := 4) nd rfl (Or.inr rfl)) (pgs_cons (pg_name (i := 5) nd rfl (Or.inr rfl)) pgs_nil))))
          (pss_one (ps_set (i := 0) nd rfl (Or.inr rfl) (pe_call FT.ok (by exact hr) (by rfl) FT.m FT.k FT.b .nil pass0 (pa_cons (pe_lc (own := [("_law_j", 6)]) (g := gName 6) (tt := tYes) rfl nd (pi_range1 (by rfl) B.range (pa_cons (pe_callB call_len (by rfl) B.len boot_len (pa_cons (pv 0) pa_nil)) pa_nil)) (blkOk_by (own := [("_law_j", 6)]) (N := ["_law_row_here", "_law_kept_here", "_law_place", "_law_other", "_law_one", "_law_two", "_law_j"]) (sc := defScope sCleared) (by decide +kernel)) (fun _ _ _ _ _ => pg_name (i := 6) nd rfl (Or.inl rfl) (Or.inr rfl)) (fun _ _ _ _ _ => pts_nil)
            (fun _ _ _ _ _ => pe_op op_sub (pe_op op_mulW (pv 4) (pe_ix (ix_seqK (K := K) rfl) (pv 0) (pv 6) (fun _ _ => rfl))) (pe_op op_mulW (pv 5) (pe_ix (ix_seqK (K := K) rfl) (pv 3) (pv 6) (fun _ _ => rfl))))) pa_nil))))) pss_nil)))
      (pss_one (ps_ret (pv 0))), ?_⟩
    have hkl := hKO.len
    have hks : ks.length ≤ 400 := by omega
    have hone : 1 * (R + 1) ≤ 2 ^ ks.length * (R + 1) := Nat.mul_le_mul_right _ (Nat.pow_pos (by decide))
    refine ⟨_, rfl, kk, rfl, ⟨_, hk1⟩, ?_⟩
    refine for_it (walk_list (xs := xs.map V.ref)) (fun i σ Hc => Same H Hc ∧ ∃ (q : Addr) (y2 y3 y4 y5 : Option V), σ = [some (.ref q), some (.ref kk), y2, y3, y4, y5, none] ∧ (q = l ∨ H q = none) ∧ SqL K Hc q ((cleared r (ks.take i)).map V.int)) ⟨Same.refl _, l, none, none, none, none, rfl, .inl rfl, hl⟩ (fun i σ Hc _ h => h.1.seq hk1) ?_ ?_
    · rintro i x σ H0 Hc hi ⟨s1, q, y2, y3, y4, y5, rfl, hq, hqr⟩ ⟨rfl, hx'⟩
      rw [List.length_map] at hi
      have hik : i < ks.length := by omega
      have ex : xs[i]? = some xs[i] := List.getElem?_eq_getElem hi
      have ek : ks[i]? = some ks[i] := List.getElem?_eq_getElem hik
      rw [List.getElem?_map, ex] at hx'
      cases hx'
      obtain ⟨c, hc1, hc2⟩ := hk3 i _ _ ex ek
      have tk := take_snoc' ks i _ ek
      have hKt := hKO.take i
      have hut : (us.take i).length ≤ W := by rw [List.length_take]; omega
      obtain ⟨g1, g2, g3⟩ := hKt.clear hut hrl
      have gs := hKt.small hut hrl hrb
      have htl : (ks.take i).length = i := by rw [List.length_take]; omega
      rw [htl] at gs
      have krow := hKO.rows hW ks[i] (List.getElem_mem hik)
      have kbit := hKO.bits i ks[i] ek
      rw [tk, L2.Elim.cleared_snoc]
      generalize hcl : cleared r (ks.take i) = rr at *
      generalize hkv : ks[i] = kv at *
      obtain ⟨pl, ro⟩ := kv
      have klen : ro.length = 2 * W + 1 := krow.len
      have klt : pl < W := krow.lt
      have hpow : 2 ^ (i + 1) * (R + 1) ≤ 9000 := Nat.le_trans (Nat.mul_le_mul_right _ (Nat.pow_le_pow_right (by decide) hik)) hbits
      have hgrow := L2.Elim.pow_grow i R
      have hpi : 0 < 2 ^ i * (R + 1) := Nat.mul_pos (Nat.pow_pos (by decide)) (by omega)
      have hB : 2 ^ i * (R + 1) - 1 + (2 ^ i * (R + 1) - 1) + 1 ≤ 9000 := by omega
      generalize hBd : 2 ^ i * (R + 1) - 1 = Bt at *
      have hcS := same_tup s1 hc1
      have hcL := s1.seq hc2
      refine ⟨xs[i], _, rfl, hcS, rfl, _, _, rfl, _, _, rfl, rfl, ?_⟩
      have ha1 : atI (rr.map V.int) (pl : Int) = some (V.int (at0 rr pl)) := atI_nat (by rw [List.getElem?_map, List.getElem?_eq_getElem (by omega), L2.Elim.at0_lt (by omega)]; rfl)
      have ha2 : atI (ro.map V.int) (pl : Int) = some (V.int (at0 ro pl)) := atI_nat (by rw [List.getElem?_map, List.getElem?_eq_getElem (by omega), L2.Elim.at0_lt (by omega)]; rfl)
      have atlt : ∀ {s : List Int} {n : Nat}, (∀ z, z ∈ s → z.natAbs < 2 ^ n) → ∀ i, (at0 s i).natAbs < 2 ^ n := fun {s n} hs i => by
        by_cases hi : i < s.length
        · rw [L2.Elim.at0_lt hi]; exact hs _ (List.getElem_mem hi)
        · rw [L2.Elim.at0_ge (by omega)]; exact Nat.pow_pos (by decide)
      refine ⟨_, rfl, _, rfl, q, _, _, _, rfl, rfl, hqr, ha1, rfl, _, rfl, ?_⟩
      by_cases h0 : at0 rr pl = 0
      · refine iteF' (by show (!decide (V.int (at0 rr pl) = V.int 0)) = false; rw [h0]; rfl) ⟨s1, q, _, _, _, _, rfl, hq, ?_⟩
        rw [L2.Elim.clr1_skip h0]; exact hqr
      · refine iteT' (by simpa using h0) ?_
        refine ⟨_, rfl, _, rfl, c, _, _, _, rfl, rfl, hcL, ha2, _, rfl, _, rfl, q, _, _, _, rfl, rfl, hqr, ha1, by show 2 ≤ sizeLine; decide, fun t nt => ?_⟩
        have st := same_new (o := .tup [V.int (at0 ro pl), .int (at0 rr pl)]) nt
        refine ⟨t, _, rfl, SqT.of upd_same, rfl, _, _, rfl, _, _, rfl, rfl, ?_⟩
        have s2 := s1.trans st
        have hqr2 := st.seq hqr
        have hcL2 := st.seq hcL
        generalize (upd Hc t (.tup [V.int (at0 ro pl), .int (at0 rr pl)])) = H2 at *
        refine ⟨_, rfl, _, _, rfl, .inl ⟨_, hqr2, rfl⟩, _, rfl, by omega, by rw [List.length_map]; omega, fun D nD => ?_⟩
        have en : (((rr.map V.int).length : Nat) : Int).toNat = rr.length := by rw [List.length_map]; omega
        rw [en]
        have hcomb : (comb (at0 ro pl) (at0 rr pl) rr ro).length = rr.length := L2.Elim.comb_length (by omega)
        refine lc_out walk_range (fun j Hd => Grow H2 D (((comb (at0 ro pl) (at0 rr pl) rr ro).take j).map V.int) Hd) (Grow.start nD) (fun _ _ _ _ => trivial) ?_ ?_
        · rintro j y H00 Hd hj g ⟨rfl, rfl⟩
          have eI : ((0 : Int) + (j : Nat)) = (j : Int) := by omega
          show gName 6 (V.int (0 + (j : Nat))) _ _ _
          rw [eI]
          have e1 : atI (rr.map V.int) (j : Int) = some (V.int (at0 rr j)) := atI_nat (by rw [List.getElem?_map, List.getElem?_eq_getElem hj, L2.Elim.at0_lt hj]; rfl)
          have e2 : atI (ro.map V.int) (j : Int) = some (V.int (at0 ro j)) := atI_nat (by rw [List.getElem?_map, List.getElem?_eq_getElem (by omega), L2.Elim.at0_lt (by omega)]; rfl)
          have m1 : CMulW (at0 ro pl) (at0 rr j) := wide_mul (a := 9000) (b := 9000) (Nat.lt_of_lt_of_le (atlt kbit pl) (Nat.pow_le_pow_right (by decide) (by omega))) (Nat.lt_of_lt_of_le (atlt gs j) (Nat.pow_le_pow_right (by decide) (by omega))) (by decide) (by decide) (by decide)
          have m2 : CMulW (at0 rr pl) (at0 ro j) := wide_mul (a := 9000) (b := 9000) (Nat.lt_of_lt_of_le (atlt gs pl) (Nat.pow_le_pow_right (by decide) (by omega))) (Nat.lt_of_lt_of_le (atlt kbit j) (Nat.pow_le_pow_right (by decide) (by omega))) (by decide) (by decide) (by decide)
          refine ⟨rfl, _, rfl, _, rfl, _, rfl, SqK.ix (t := false) (g.s.seq hqr2) e1 ⟨_, _, rfl, rfl, m1, _, rfl, _, rfl, _, rfl, SqK.ix (t := false) (g.s.seq hcL2) e2 ⟨_, _, rfl, rfl, m2, _, _, rfl, rfl, _, g.d, small1000 (by rw [List.length_map, List.length_take]; omega), ?_⟩⟩⟩
          have := g.step nD (V.int (at0 ro pl * at0 rr j - at0 rr pl * at0 ro j))
          have ec : (comb (at0 ro pl) (at0 rr pl) rr ro)[j]? = some (at0 ro pl * at0 rr j - at0 rr pl * at0 ro j) := by
            have hjc : j < (comb (at0 ro pl) (at0 rr pl) rr ro).length := by omega
            rw [← L2.Elim.comb_at (a := at0 ro pl) (b := at0 rr pl) (r := rr) (s := ro) (by omega) j, L2.Elim.at0_lt hjc]
            exact List.getElem?_eq_getElem hjc
          rw [take_snoc' _ j _ ec, List.map_append]
          exact this
        · intro Hd g
          rw [List.take_of_length_le (by omega)] at g
          have cs : ∀ z, z ∈ comb (at0 ro pl) (at0 rr pl) rr ro → z.natAbs < 2 ^ 9000 := fun z hz => by
            obtain ⟨j, hj, rfl⟩ := List.getElem_of_mem hz
            rw [← L2.Elim.at0_lt hj, L2.Elim.comb_at (by omega)]
            have h1 := wide_lt (atlt kbit pl) (atlt gs j)
            have h2 := wide_lt (atlt gs pl) (atlt kbit j)
            have h3 := Int.natAbs_sub_le (at0 ro pl * at0 rr j) (at0 rr pl * at0 ro j)
            have h4 : 2 ^ (Bt + Bt) + 2 ^ (Bt + Bt) ≤ 2 ^ 9000 := by
              have : 2 ^ (Bt + Bt) + 2 ^ (Bt + Bt) = 2 ^ (Bt + Bt + 1) := by rw [Nat.pow_succ]; omega
              rw [this]
              exact Nat.pow_le_pow_right (by decide) hB
            exact Nat.lt_of_le_of_lt h3 (Nat.lt_of_lt_of_le (Nat.add_lt_add h1 h2) h4)
          refine ⟨D, _, rfl, SqL.of g.d, by omega, cs, fun H3 p s3 hp hpr => ?_⟩
          refine ⟨(s2.trans g.s).trans s3, p, _, _, _, _, rfl, .inr ?_, ?_⟩
          · rcases hp with e | e
            · rw [e]; exact s2.free nD
            · exact (s2.trans g.s).free e
          · have e : clr1 rr (pl, ro) = thin (comb (at0 ro pl) (at0 rr pl) rr ro) := by unfold clr1; rw [if_pos h0]
            rw [e]; exact hpr
    · rintro σ Hc ⟨s1, q, y2, y3, y4, y5, rfl, hq, hqr⟩
      rw [List.length_map, hk2, List.take_length] at hqr
      exact ⟨_, rfl, k Hc q s1 hq hqr⟩
end
end L2.EH
end S_L9
section S_T6
set_option exponentiation.threshold 20000
set_option maxRecDepth 100000
set_option maxHeartbeats 4000000
namespace L2.EH
open PySem PySem.Spec PyProof.Rows StX
open L2.Halves (has keys)
theorem shRow_get (S : Int) : ∀ (ps : List (Int × Int)) (i : Nat) (q : Nat × Int), q ∈ shRow S i ps → ∃ j p, ps[j]? = some p ∧ q = (i + j, p.1 * (S / p.2))
  | [], i, q, h => by simp [shRow] at h
  | p :: ps, i, q, h => by
    simp only [shRow] at h
    have go : q ∈ shRow S (i + 1) ps → ∃ j p', (p :: ps)[j]? = some p' ∧ q = (i + j, p'.1 * (S / p'.2)) := fun h => by
      obtain ⟨j, p', e1, e2⟩ := shRow_get S ps (i + 1) q h
      exact ⟨j + 1, p', by simpa using e1, by rw [e2]; simp; omega⟩
    split at h
    · rcases List.mem_cons.1 h with e | e
      · exact ⟨0, p, rfl, by rw [e]; simp⟩
      · exact go e
    · exact go h
theorem shRow_small {ps : List (Int × Int)} (h : RowB ps) : ∀ q, q ∈ shRow (shr ps : Int) 0 ps → q.2.natAbs < 2 ^ 1060 := fun q hq => by
  obtain ⟨j, p, e1, e2⟩ := shRow_get _ _ _ _ hq
  rw [e2]
  have hp := h.2.2 p (List.mem_of_getElem? e1)
  have hS : shr ps < 2 ^ 60 := by have := h.2.1 ps.length; rwa [List.take_length] at this
  have := wide_lt hp.2 (Nat.lt_of_le_of_lt (Int.natAbs_ediv_le_natAbs ((shr ps : Nat) : Int) p.2) (by rw [natCast_natAbs]; exact hS))
  exact this
theorem SqL.same {K : PySem.W.Frag} {H H' : Hp} {a : Addr} {xs : List V} (h : SqL K H a xs) (s : Same H H') : SqL K H' a xs := s.seq h
section
variable {P : Program} {w : World} {K : PySem.W.Frag} {mg : Str → Option Value} {base : Heap}
theorem ok_plainIn {C f fW fR fF fS fH fT fI : Addr} {fd fdW fdR fdF fdS fdH fdT fdI : FuncData} {tP : Tok} (F : Fun K "plain_in" "plain_in" sPlainIn f fd) (B : BN mg) (hP : mg "PLAIN_LINES" = some (.int 100 tP))
    (FW : Fn' P w K mg base 1 "is_whole" fW fdW ["value"] (spIsWhole K)) (FR : Fn' P w K mg base 1 "is_row_of" fR fdR ["value", "many"] (spIsRowOf K)) (FF : Fn' P w K mg base 3 "is_fraction_row" fF fdF ["value", "many"] (spIsFractionRow K))
    (FS : Fn' P w K mg base 4 "is_square" fS fdS ["value", "many"] (spIsSquare K)) (FH : Fn' P w K mg base 1 "shared_row" fH fdH ["fractions"] (spSharedRow K)) (FT : Fn' P w K mg base 1 "row_times" fT fdT ["tops", "values"] (spRowTimes K))
    (M : Made P w K mg base 1 "PlainRule" C fI fdI ["self", "halves", "starts", "answer"] (spRuleInit C)) : FnOk P w K mg base CX0 5 f fd ["value"] (spPlainIn K C) := by
  refine F.ok scPlainIn (fun vs H Q E h => ?_) (fun cdv A outer s H vs Q E hr h => ?_)
  · obtain ⟨v, d, rfl, _⟩ := h
    rfl
  · obtain ⟨v, d, rfl, hd, hfit, hB0, k1, k0⟩ := h
    have nd := scPlainIn.nd
    refine ⟨_, pss_cons (ps_if (pt_not (pt_val (pe_call FR.ok (by exact hr.mono (by decide)) (by rfl) FR.m FR.k FR.b .nil pass0 (pa_cons (pv 0) (pa_cons pe_int pa_nil))))) (pss_one (ps_ret pe_non)) pss_nil)
      (pss_cons (ps_asg (pv 0) (pg_tup rfl (pgs_cons (pg_name (i := 1) nd rfl (Or.inl rfl)) (pgs_cons (pg_name (i := 2) nd rfl (Or.inl rfl)) (pgs_cons (pg_name (i := 3) nd rfl (Or.inl rfl)) (pgs_cons (pg_name (i := 4) nd rfl (Or.inl rfl)) pgs_nil))))))
      (pss_cons (ps_if (PW.pt (pw_or (pt_not (pt_val (pe_callB call_isi (by rfl) B.isinst (by decide +kernel) (pa_cons (pv 1) (pa_cons (pe_bltn (v := .ty "tuple") (by rfl) B.tuple (by decide +kernel) rfl) pa_nil)))))
          (pw_or1 (pt_cmpR op_gt (pe_callB call_len (by rfl) B.len boot_len (pa_cons (pv 1) pa_nil)) (pe_glob (v := .int 100) rfl hP ⟨_, rfl⟩) (nomark _))))) (pss_one (ps_ret pe_non)) pss_nil)
      (pss_cons (ps_set (i := 5) nd rfl (Or.inl rfl) (pe_callB call_len (by rfl) B.len boot_len (pa_cons (pv 1) pa_nil)))
      (pss_cons (ps_if (PW.pt (pw_or (pt_not (pt_val (pe_call FS.ok (by exact hr.mono (by decide)) (by rfl) FS.m FS.k FS.b .nil pass0 (pa_cons (pv 1) (pa_cons (pv 5) pa_nil)))))
          (pw_or1 (pt_not (pt_val (pe_call FS.ok (by exact hr.mono (by decide)) (by rfl) FS.m FS.k FS.b .nil pass0 (pa_cons (pv 2) (pa_cons (pv 5) pa_nil)))))))) (pss_one (ps_ret pe_non)) pss_nil)
      (pss_cons (ps_if (PW.pt (pw_or (pt_not (pt_val (pe_call FR.ok (by exact hr.mono (by decide)) (by rfl) FR.m FR.k FR.b .nil pass0 (pa_cons (pv 3) (pa_cons (pv 5) pa_nil)))))
          (pw_or (pt_not (pt_val (pe_callB (cr_all rfl) (by rfl) B.all (by decide +kernel) (pa_cons (pe_lc (own := [("first", 6)]) (g := gName 6) (tt := tYes) rfl nd (pi_tup (pv 3)) (blkOk_by (own := [("first", 6)]) (N := ["value", "even", "odd", "firsts", "told", "many", "first", "evens", "tops", "bottom", "row"]) (sc := defScope sPlainIn) (by decide +kernel)) (fun _ _ _ _ _ => pg_name (i := 6) nd rfl (Or.inl rfl) (Or.inr rfl)) (fun _ _ _ _ _ => pts_nil)
            (fun _ _ _ _ _ => pe_call FW.ok (by exact hr.mono (by decide)) (by rfl) FW.m FW.k FW.b .nil pass0 (pa_cons (pv 6) pa_nil))) pa_nil))))
          (pw_or1 (pt_not (pt_val (pe_call FF.ok (by exact hr.mono (by decide)) (by rfl) FF.m FF.k FF.b .nil pass0 (pa_cons (pv 4) (pa_cons (pv 5) pa_nil))))))))) (pss_one (ps_ret pe_non)) pss_nil)
      (pss_cons (ps_setLc (i := 7) (own := [("row", 10)]) (g := gName 10) (tt := tYes) (by rfl) nd rfl rfl (sw_true rfl rfl rfl (by decide +kernel)) (pi_tup (pv 1)) (blkOk_by (own := [("row", 10)]) (N := ["value", "even", "odd", "firsts", "told", "many", "first", "evens", "tops", "bottom", "row"]) (sc := defScope sPlainIn) (by decide +kernel)) (fun _ _ _ _ _ => pg_name (i := 10) nd rfl (Or.inl rfl) (Or.inr rfl)) (fun _ _ _ _ _ => pts_nil)
          (fun _ _ _ _ _ => pe_call FH.ok (by exact hr.mono (by decide)) (by rfl) FH.m FH.k FH.b .nil pass0 (pa_cons (pv 10) pa_nil)))
      (pss_cons (ps_for PassesOwn.never rfl (pi_zipK false true (by rfl) B.zip (pa_cons (pv 7) (pa_cons (pv 3) pa_nil))) (pg_tup rfl (pgs_cons (pg_tup rfl (pgs_cons (pg_name (i := 8) nd rfl (Or.inl rfl)) (pgs_cons (pg_name (i := 9) nd rfl (Or.inl rfl)) pgs_nil))) (pgs_cons (pg_name (i := 6) nd rfl (Or.inl rfl)) pgs_nil)))
          (pss_one (ps_if (pt_cmpR op_ne (pe_call FT.ok (by exact hr.mono (by decide)) (by rfl) FT.m FT.k FT.b .nil pass0 (pa_cons (pv 8) (pa_cons (pv 3) pa_nil))) (pe_op op_mulW (pv 6) (pv 9)) (nomark _)) (pss_one (ps_ret pe_non)) pss_nil)))
      (pss_one (ps_ret (pe_make M.M M.ok (by exact hr.mono (by decide)) (by rfl) M.m M.b .nil pass0 (pa_cons (pe_tup (pa_cons (pv 7) (pa_cons (pe_lc (own := [("row", 10)]) (g := gName 10) (tt := tYes) rfl nd (pi_tup (pv 2)) (blkOk_by (own := [("row", 10)]) (N := ["value", "even", "odd", "firsts", "told", "many", "first", "evens", "tops", "bottom", "row"]) (sc := defScope sPlainIn) (by decide +kernel)) (fun _ _ _ _ _ => pg_name (i := 10) nd rfl (Or.inl rfl) (Or.inr rfl)) (fun _ _ _ _ _ => pts_nil)
          (fun _ _ _ _ _ => pe_call FH.ok (by exact hr.mono (by decide)) (by rfl) FH.m FH.k FH.b .nil pass0 (pa_cons (pv 10) pa_nil))) pa_nil))) (pa_cons (pv 3) (pa_cons (pe_call FH.ok (by exact hr.mono (by decide)) (by rfl) FH.m FH.k FH.b .nil pass0 (pa_cons (pv 4) pa_nil)) pa_nil))))))))))))), ?_⟩
    have no : ∀ {Hc : Hp}, Same H Hc → d.plain? = none → Q .non Hc := fun sH e => k0 e _ sH
    refine ⟨_, rfl, v, d, 4, rfl, hd, _, rfl, ?_⟩
    by_cases h4 : d.isTup 4 = true
    case neg =>
      rw [Bool.not_eq_true] at h4
      refine iteT' (by rw [h4]; rfl) (no (Same.refl H) (plain?_none ?_))
      unfold Th.shape?
      split
      · cases h4
      · rfl
    refine iteF' (by rw [h4]; rfl) ?_
    obtain ⟨x1, x2, x3, x4, rfl⟩ : ∃ x1 x2 x3 x4, d = .tup [x1, x2, x3, x4] := by
      cases d with
      | tup xs =>
        have h3 := of_decide_eq_true (show decide ((xs.length : Int) = 4) = true from h4)
        match xs, h3 with
        | [x1, x2, x3, x4], _ => exact ⟨x1, x2, x3, x4, rfl⟩
        | [], h => cases h
        | [_], h => cases h
        | [_, _], h => cases h
        | [_, _, _], h => cases h
        | _ :: _ :: _ :: _ :: _ :: _, h => simp at h; omega
      | _ => cases h4
    obtain ⟨a, xs, rfl, ha, hx⟩ := td_tup hd
    obtain ⟨v1, v2, v3, v4, rfl, d1, d2, d3, d4⟩ : ∃ v1 v2 v3 v4, xs = [v1, v2, v3, v4] ∧ Td K H v1 x1 ∧ Td K H v2 x2 ∧ Td K H v3 x3 ∧ Td K H v4 x4 := by
      cases hx with
      | cons h1 r => cases r with
        | cons h2 r => cases r with
          | cons h3 r => cases r with
            | cons h4 r => cases r with
              | nil => exact ⟨_, _, _, _, rfl, h1, h2, h3, h4⟩
    have fit4 : x1.fits ∧ x2.fits ∧ x3.fits ∧ x4.fits := by
      unfold Th.fits at hfit
      have := hfit.2
      simp only [fitsAll] at this
      exact ⟨this.1, this.2.1, this.2.2.1, this.2.2.2.1⟩
    refine ⟨_, rfl, a, _, rfl, ha, rfl, _, _, rfl, _, _, rfl, _, _, rfl, _, _, rfl, rfl, ?_⟩
    obtain ⟨ty1, hty1, hki1⟩ := td_isTuple d1
    refine ⟨_, rfl, _, _, ty1, .type "tuple", _, rfl, .ty _, hty1, hki1, _, rfl, ?_⟩
    by_cases hx1 : x1.isTuple = true
    case neg =>
      rw [Bool.not_eq_true] at hx1
      refine iteT' (by rw [hx1]; rfl) (no (Same.refl H) (plain?_none ?_))
      unfold Th.shape?
      split
      · rename_i e
        cases e
        cases hx1
      · rfl
    refine iteF' (by rw [hx1]; rfl) ?_
    obtain ⟨es, rfl⟩ : ∃ es, x1 = .tup es := by cases x1 <;> first | exact ⟨_, rfl⟩ | cases hx1
    obtain ⟨a1, xs1, rfl, ha1, hxx1⟩ := td_tup d1
    have hlen0 := tdAll_len hxx1
    refine ⟨_, rfl, _, _, rfl, .inr ⟨_, ha1, rfl⟩, _, _, rfl, rfl, _, rfl, ?_⟩
    rw [hlen0]
    refine ite2 (fun h1 => ?_) fun h1 => ?_
    · refine no (Same.refl H) (plain?_none ?_)
      have : ¬ es.length ≤ 100 := by have := of_decide_eq_true h1; omega
      show (if es.length ≤ 100 then shapeOf es x2 x3 x4 else none) = none
      rw [if_neg this]
    have c1 : es.length ≤ 100 := by
      have : ¬ (100 : Int) < (es.length : Int) := fun z => h1 (decide_eq_true z)
      omega
    have shp : (Th.tup [.tup es, x2, x3, x4]).shape? = shapeOf es x2 x3 x4 := by
      show (if es.length ≤ 100 then shapeOf es x2 x3 x4 else none) = _
      rw [if_pos c1]
    refine ⟨_, rfl, _, _, rfl, .inr ⟨_, ha1, rfl⟩, ?_⟩
    rw [hlen0]
    refine ⟨_, rfl, _, rfl, .ref a1, .tup es, (es.length : Int), rfl, d1, fit4.1, fun H1 s1 => ⟨_, rfl, ?_⟩⟩
    cases c2 : (Th.tup es).square? es.length with
    | none => exact iteT (no s1 (plain?_none (by rw [shp]; exact shapeOf_none (.inl c2))))
    | some Ev =>
    refine iteF ⟨_, rfl, _, rfl, v2, x2, (es.length : Int), rfl, td_same s1 d2, fit4.2.1, fun H2 s2 => ⟨_, rfl, ?_⟩⟩
    have s02 := s1.trans s2
    cases c3 : x2.square? es.length with
    | none => exact iteT (no s02 (plain?_none (by rw [shp]; exact shapeOf_none (.inr (.inl c3)))))
    | some Od =>
    refine iteF ⟨_, rfl, _, rfl, v3, x3, (es.length : Int), rfl, td_same s02 d3, _, rfl, ?_⟩
    by_cases c4 : x3.isTup es.length = true
    case neg =>
      rw [Bool.not_eq_true] at c4
      refine iteT' (by rw [c4]; rfl) (no s02 (plain?_none (by
        rw [shp]
        refine shapeOf_none (.inr (.inr (.inl ?_)))
        cases x3 with
        | tup xs =>
          have := of_decide_eq_false (show decide ((xs.length : Int) = es.length) = false from c4)
          show (if (xs.length : Int) = es.length then ints? xs else none) = none
          rw [if_neg this]
        | _ => rfl)))
    refine iteF' (by rw [c4]; rfl) ?_
    obtain ⟨fs, rfl⟩ : ∃ fs, x3 = .tup fs := by cases x3 <;> first | exact ⟨_, rfl⟩ | cases c4
    have hfl := of_decide_eq_true (show decide ((fs.length : Int) = es.length) = true from c4)
    obtain ⟨a3, xs3, rfl, ha3, hxx3⟩ := td_tup d3
    have hlen3 := tdAll_len hxx3
    have ha3' := same_tup s02 ha3
    refine ⟨_, rfl, a3, rfl, ⟨_, ha3'⟩, fun D nD => ?_⟩
    refine lc_out (walk_tup (xs := xs3)) (fun i Hc => Grow H2 D (((fs.take i).map fun d => d.isInt).map V.bl) Hc) (Grow.start nD) (fun i Hc _ g => same_tup g.s ha3') ?_ ?_
    · rintro i x H0 Hc hi g ⟨rfl, hx'⟩
      obtain ⟨d, hd1, hd2⟩ := tdAll_get hxx3 hx'
      refine ⟨rfl, _, rfl, x, d, rfl, td_same (s02.trans g.s) hd2, _, g.d, by rw [List.length_map, List.length_map, List.length_take]; exact small1000 (by omega), ?_⟩
      have := g.step nD (V.bl d.isInt)
      rw [map_bl_snoc _ fs i d hd1]
      exact this
    intro H3 g3
    rw [hlen3, List.take_length] at g3
    refine ⟨D, _, rfl, SqL.of g3.d, _, rfl, ?_⟩
    rw [← ints?_all]
    have s03 := s02.trans g3.s
    cases c4b : ints? fs with
    | none => exact iteT (no s03 (plain?_none (by
        rw [shp]
        refine shapeOf_none (.inr (.inr (.inl ?_)))
        show (if (fs.length : Int) = es.length then ints? fs else none) = none
        rw [if_pos hfl, c4b])))
    | some ns =>
    refine iteF ⟨_, rfl, _, rfl, v4, x4, (es.length : Int), rfl, td_same s03 d4, fit4.2.2.2, fun H4 s4 => ⟨_, rfl, ?_⟩⟩
    have s04 := s03.trans s4
    cases c5 : x4.frow? es.length with
    | none => exact iteT (no s04 (plain?_none (by rw [shp]; exact shapeOf_none (.inr (.inr (.inr c5))))))
    | some T =>
    have hsh : (Th.tup [.tup es, x2, .tup fs, x4]).shape? = some ⟨Ev, Od, ns, T⟩ := by
      rw [shp]
      unfold shapeOf
      have e3 : (Th.tup fs).irow? es.length = some ns := by
        show (if (fs.length : Int) = es.length then ints? fs else none) = _
        rw [if_pos hfl, c4b]
      rw [c2, c3, e3, c5]
    have hB := hB0 _ hsh
    obtain ⟨q1, q1r, q1l⟩ := square?_some c2
    obtain ⟨q2, q2r, q2l⟩ := square?_some c3
    obtain ⟨q4, q4r, q4l⟩ := frow?_some c5
    have q3 := ints?_some c4b
    generalize hR : (⟨Ev, Od, ns, T⟩ : Plain) = R at *
    have eE : Ev = R.even := by rw [← hR]
    have eO : Od = R.odd := by rw [← hR]
    have eF : ns = R.firsts := by rw [← hR]
    have eT : T = R.told := by rw [← hR]
    have eW : (R.even.length : Int) = (es.length : Int) := by rw [← eE]; exact q1l
    have ees : es = R.even.map prowT := by
      have := q1
      rw [eE] at this
      exact Th.tup.inj this
    have efs : fs = R.firsts.map intT := by rw [← eF]; exact q3
    have c4 : R.firsts.length = R.even.length := by
      have : fs.length = R.firsts.length := by rw [efs, List.length_map]
      omega
    have hlen1 : xs1.length = R.even.length := by rw [hlen0]; omega
    have hx1 : DpAll K H xs1 (R.even.map prowD) := tdAll_prows (by rw [← ees]; exact hxx1)
    rw [q2, eO] at d2
    obtain ⟨a2, xs2, rfl, ha2, hxx2⟩ := td_tup d2
    have hx2 : DpAll K H xs2 (R.odd.map prowD) := tdAll_prows hxx2
    have hlen2 : xs2.length = R.odd.length := by rw [tdAll_len hxx2, List.length_map]
    rw [q4, eT] at d4
    have d4 := dp_prow d4
    have ha3 : SqT K H a3 (R.firsts.map V.int) := by
      have := hxx3
      rw [efs] at this
      rw [← tdAll_ints this]; exact ha3
    have pe : ∀ r, r ∈ R.even → ∀ p, p ∈ r → 0 < p.2 := fun r hr => frac_pos (q1r r (by rw [eE]; exact hr)).1
    have po : ∀ r, r ∈ R.odd → ∀ p, p ∈ r → 0 < p.2 := fun r hr => frac_pos (q2r r (by rw [eO]; exact hr)).1
    have pt : ∀ p, p ∈ R.told → 0 < p.2 := frac_pos (by rw [← eT]; exact q4r)
    have hwid0 : ∀ r, r ∈ R.even → r.length = R.even.length := fun r hr => by
      have := (q1r r (by rw [eE]; exact hr)).2
      omega
    have pl : (Th.tup [.tup es, x2, .tup fs, x4]).plain? = if fitsB R.even R.firsts = true then some R else none := by
      unfold Th.plain?
      rw [hsh]
    rw [show (es.length : Int) = (R.even.length : Int) from eW.symm] at *
    have ha1' := same_tup s04 ha1
    refine iteF ⟨_, rfl, a1, rfl, ⟨_, ha1'⟩, fun E1 nE => ?_⟩
    -- shared rows, one by one
    have rows : ∀ {Hb : Hp} {zs : List V} {M : List (List (Int × Int))} {D : Addr}, Hb D = none → DpAll K Hb zs (M.map prowD) → (∀ r, r ∈ M → RowB r) → (∀ r, r ∈ M → ∀ p, p ∈ r → 0 < p.2) → M.length ≤ 900 →
        ∀ (i : Nat) (x : V) (Hc : Hp) (acc : List V), i < zs.length → zs[i]? = some x → Grow Hb D acc Hc → acc.length = i → (∀ (j : Nat) (y : V) (r : List (Int × Int)), acc[j]? = some y → M[j]? = some r → ShrAt K Hc y r) →
        ∀ (N : Hp → Prop), (∀ H' acc', Grow Hb D acc' H' → acc'.length = i + 1 → (∀ (j : Nat) (y : V) (r : List (Int × Int)), acc'[j]? = some y → M[j]? = some r → ShrAt K H' y r) → N H') →
        spSharedRow K [x] Hc (fun y H4 => ∃ acc, H4 D = some (.lst acc) ∧ acc.length < sizeLine ∧ N (upd H4 D (.lst (acc ++ [y])))) E0 := by
      intro Hb zs M D nD hz hM hp hml i x Hc acc hi hx' g hacc hsh N hN
      obtain ⟨d, hd1, hd2⟩ := dpAll_get' hz hx'
      rw [List.getElem?_map] at hd1
      cases e : M[i]? with
      | none => rw [e] at hd1; cases hd1
      | some r =>
        rw [e] at hd1
        cases hd1
        have hrm := List.mem_of_getElem? e
        have hRB := hM r hrm
        refine ⟨x, r, rfl, dp_same g.s hd2, hRB.1, hRB.2.1, fun p hpp => ⟨hp r hrm p hpp, hRB.2.2 p hpp⟩, fun H' t d sH nt ndd ht hdd => ?_⟩
        have gd := sH _ _ g.d
        have il : i < M.length := (List.getElem?_eq_some_iff.1 e).1
        refine ⟨acc, gd, small1000 (by omega), hN _ (acc ++ [.ref t]) ((g.same sH).step nD _) (by simp [hacc]) ?_⟩
        have keep : ∀ {y : V} {q : List (Int × Int)}, ShrAt K H' y q → ShrAt K (upd H' D (.lst (acc ++ [.ref t]))) y q := fun {y q} ⟨t', d', e', h1, h2⟩ => by
          refine ⟨t', d', e', tup_keepT (keepT_upd gd rfl) h1, ?_⟩
          rw [upd_ne (by intro z; rw [z, gd] at h2; cases h2)]; exact h2
        intro j y q hy hq
        by_cases hj : j < i
        · rw [List.getElem?_append_left (by omega)] at hy
          exact keep ((hsh j y q hy hq).same sH)
        · have hj2 : j = i := by
            have := (List.getElem?_eq_some_iff.1 hy).1
            simp at this; omega
          subst hj2
          rw [List.getElem?_append_right (by omega), hacc, Nat.sub_self] at hy
          cases hy
          rw [e] at hq
          cases hq
          exact keep ⟨t, d, rfl, SqT.of ht, hdd⟩
    have hx1' := dpAll_same s04 hx1
    refine lc_out (walk_tup (xs := xs1)) (fun i Hc => ∃ acc, Grow H4 E1 acc Hc ∧ acc.length = i ∧ ∀ (j : Nat) (y : V) (r : List (Int × Int)), acc[j]? = some y → R.even[j]? = some r → ShrAt K Hc y r) ⟨[], Grow.start nE, rfl, fun j y r h _ => by simp at h⟩ (fun i Hc _ ⟨acc, g, _⟩ => same_tup g.s ha1') ?_ ?_
    · rintro i x H0 Hc hi ⟨acc, g, hacc, hsh⟩ ⟨rfl, hx'⟩
      refine ⟨rfl, _, rfl, ?_⟩
      exact rows nE hx1' hB.e pe hB.el i x _ acc hi hx' g hacc hsh (fun Hc => ∃ acc, Grow H4 E1 acc Hc ∧ acc.length = i + 1 ∧ ∀ (j : Nat) (y : V) (r : List (Int × Int)), acc[j]? = some y → R.even[j]? = some r → ShrAt K Hc y r) fun H' acc' g' h1 h2 => ⟨acc', g', h1, h2⟩
    rintro H5 ⟨accE, g5, hE1, hE2⟩
    rw [hlen1] at hE1
    have s05 := s04.trans g5.s
    have ha3'' := same_tup s05 ha3
    -- the fit
    refine ⟨_, rfl, _, rfl, E1, a3, accE, R.firsts.map V.int, rfl, SqL.of g5.d, ha3'', ?_⟩
    have hmin : R.even.length = min accE.length (R.firsts.map V.int).length := by rw [hE1, List.length_map, c4]; simp
    have zipat : ∀ (i : Nat) r z, R.even[i]? = some r → R.firsts[i]? = some z → (List.zip R.even R.firsts)[i]? = some (r, z) := fun i r z h1 h2 => by
      rw [List.getElem?_zip_eq_some]; exact ⟨h1, h2⟩
    refine for_it (walk_zipK (t := false) (u := true) hmin) (fun i σ Hc => Same H5 Hc ∧ ((List.zip R.even R.firsts).take i).all (fun p => decide (rowTimes (shRow (shr p.1 : Int) 0 p.1) R.firsts = p.2 * (shr p.1 : Int))) = true ∧
      ∃ x y z : Option V, σ = [some (.ref a), some (.ref a1), some (.ref a2), some (.ref a3), some v4, some (.int (R.even.length : Int)), x, some (.ref E1), y, z, none]) ⟨Same.refl _, by simp, none, none, none, rfl⟩ (fun i σ Hc _ h => ⟨SqL.same (SqL.of g5.d) h.1, same_tup h.1 ha3''⟩) ?_ ?_
    · rintro i v0 σ H0 Hc hi ⟨s6, hall, x, y, z, rfl⟩ ⟨T, u1, u2, rfl, hT, rfl, e1, e2⟩
      replace e2 : (R.firsts.map V.int)[i]? = some u2 := e2
      rw [List.getElem?_map] at e2
      cases ef : R.firsts[i]? with
      | none => rw [ef] at e2; cases e2
      | some fz =>
        rw [ef] at e2
        cases e2
        have hie : i < R.even.length := hi
        have er : R.even[i]? = some R.even[i] := List.getElem?_eq_getElem hie
        obtain ⟨t, d, rfl, ht, hdd⟩ := hE2 i u1 _ e1 er
        have sT := same_new (o := .tup [V.ref t, V.int fz]) hT
        have s57 := s6.trans sT
        refine ⟨T, _, rfl, SqT.of upd_same, rfl, _, _, rfl, ⟨t, _, rfl, same_tup s57 ht, rfl, _, _, rfl, _, _, rfl, rfl, ?_⟩⟩
        have hrm := List.mem_of_getElem? er
        have hRB := hB.e _ hrm
        have hS : shr R.even[i] < 2 ^ 60 := by have := hRB.2.1 R.even[i].length; rwa [List.take_length] at this
        have hwid : R.even[i].length = R.even.length := hwid0 _ hrm
        refine ⟨_, _, rfl, rfl, _, rfl, _, rfl, d, a3, true, _, R.firsts, 1060, 1000, rfl, s57 _ _ hdd, same_tup s57 ha3'', shRow_nodup _ _ _, fun q hq => ?_, ?_, shRow_small hRB, hB.f, by decide, by decide, by decide, fun H8 s8 => ?_⟩
        · have := shRow_keys _ _ _ _ hq
          omega
        · have := shRow_len (shr R.even[i] : Int) R.even[i] 0
          have := hRB.1
          omega
        refine ⟨_, rfl, _, rfl, _, _, rfl, rfl, wide_mul (a := 1000) (b := 60) (hB.f fz (List.mem_of_getElem? ef)) (by rw [natCast_natAbs]; exact hS) (by decide) (by decide) (by decide), rfl, _, rfl, ?_⟩
        have tk : (List.zip R.even R.firsts).take (i + 1) = (List.zip R.even R.firsts).take i ++ [(R.even[i], fz)] := take_snoc' _ _ _ (zipat i _ _ er ef)
        by_cases hq : rowTimes (shRow (shr R.even[i] : Int) 0 R.even[i]) R.firsts = fz * (shr R.even[i] : Int)
        · rw [hq]
          refine iteF' (by simp) ⟨s57.trans s8, ?_, _, _, _, rfl⟩
          rw [tk, List.all_append, hall]
          simp [hq]
        · refine iteT' (by simpa using hq) (no (s05.trans (s57.trans s8)) ?_)
          have hf : fitsB R.even R.firsts = false := by
            rw [Bool.eq_false_iff]
            intro hf
            unfold fitsB at hf
            have := List.all_eq_true.mp hf _ (List.mem_of_getElem? (zipat i _ _ er ef))
            exact hq (of_decide_eq_true this)
          rw [pl, if_neg (by rw [hf]; decide)]
    rintro σ H6 ⟨s6, hall, x, y, z, rfl⟩
    have c6 : fitsB R.even R.firsts = true := by
      unfold fitsB
      rw [List.take_of_length_le (by simp; omega)] at hall
      exact hall
    have okR : (Th.tup [.tup es, x2, .tup fs, x4]).plain? = some R := by
      rw [pl, if_pos c6]
    have s06 := s05.trans s6
    have ha2' := same_tup s06 ha2
    refine ⟨_, rfl, _, rfl, a2, rfl, ⟨_, ha2'⟩, fun O1 nO => ?_⟩
    refine lc_out (walk_tup (xs := xs2)) (fun i Hc => ∃ acc, Grow H6 O1 acc Hc ∧ acc.length = i ∧ ∀ (j : Nat) (y : V) (r : List (Int × Int)), acc[j]? = some y → R.odd[j]? = some r → ShrAt K Hc y r) ⟨[], Grow.start nO, rfl, fun j y r h _ => by simp at h⟩ (fun i Hc _ ⟨acc, g, _⟩ => same_tup g.s ha2') ?_ ?_
    · rintro i x H0 Hc hi ⟨acc, g, hacc, hsh⟩ ⟨rfl, hx'⟩
      refine ⟨rfl, _, rfl, ?_⟩
      exact rows nO (dpAll_same s06 hx2) hB.o po hB.ol i x _ acc hi hx' g hacc hsh (fun Hc => ∃ acc, Grow H6 O1 acc Hc ∧ acc.length = i + 1 ∧ ∀ (j : Nat) (y : V) (r : List (Int × Int)), acc[j]? = some y → R.odd[j]? = some r → ShrAt K Hc y r) fun H' acc' g' h1 h2 => ⟨acc', g', h1, h2⟩
    rintro H7 ⟨accO, g7, hO1, hO2⟩
    rw [hlen2] at hO1
    have s57 := s6.trans g7.s
    have s07 := s05.trans s57
    refine ⟨by show 2 ≤ sizeLine; decide, fun tH ntH => ?_⟩
    have sH := same_new (o := .tup [V.ref E1, V.ref O1]) ntH
    have htH : (upd H7 tH (.tup [V.ref E1, V.ref O1])) tH = some (.tup [V.ref E1, V.ref O1]) := upd_same
    generalize (upd H7 tH (.tup [V.ref E1, V.ref O1])) = H8 at *
    have s08 := s07.trans sH
    refine ⟨_, rfl, _, rfl, v4, R.told, rfl, dp_same s08 d4, hB.t.1, hB.t.2.1, fun p hp => ⟨pt p hp, hB.t.2.2 p hp⟩, fun H9 tt td s9 ntt ntd htt htd => ?_⟩
    intro x dx nx ndx nex
    have up : ∀ y oy, H9 y = some oy → (upd (upd H9 dx (.own x)) x (.ins C dx [])) y = some oy := fun y oy hy => by
      rw [upd_ne (ne_of_none hy nx), upd_ne (ne_of_none hy ndx)]; exact hy
    refine ⟨x, dx, tH, a3, tt, rfl, upd_same, fun H' hx9 hk => ⟨rfl, ?_⟩⟩
    have s10 := Same.made nx ndx hk
    have sEnd := (s08.trans s9).trans s10
    have s9e := s9.trans s10
    have s8e := sH.trans s9e
    have s7e := g7.s.trans s8e
    have s5e := s6.trans s7e
    refine k1 R okR H' x sEnd ((s08.trans s9).free nx) ⟨dx, tH, a3, tt, E1, O1, hx9, SqT.of (s9e _ _ htH), ⟨accE, SqL.of (s5e _ _ g5.d), hE1, fun j y r h1 h2 => (hE2 j y r h1 h2).same s5e⟩, ⟨accO, SqL.of (s8e _ _ g7.d), hO1, fun j y r h1 h2 => (hO2 j y r h1 h2).same s8e⟩, same_tup sEnd ha3, ⟨tt, td, rfl, SqT.of (s10 _ _ htt), s10 _ _ htd⟩, s04.free nE, s06.free nO⟩
end
end L2.EH
end S_T6
section S_T7
set_option exponentiation.threshold 20000
set_option maxRecDepth 100000
set_option maxHeartbeats 4000000
namespace L2.EH
open PySem PySem.Spec PyProof.Rows StX
open L2.Halves (has keys)
/-! ### values of lines -/
def lowT (t b : Int) : Int × Int := (t / ((Nat.gcd t.natAbs b.natAbs : Nat) : Int), b / ((Nat.gcd t.natAbs b.natAbs : Nat) : Int))
def stepPairs (M : List (List (Int × Int))) (ws : List Int) (B : Int) : List (Int × Int) := M.map fun row => lowT (rowTimes (shRow (shr row : Int) 0 row) ws) ((shr row : Int) * B)
def stepV (M : List (List (Int × Int))) (ws : List Int) (B : Int) : List Int × Int := ((stepPairs M ws B).map fun p => p.1 * (((shr (stepPairs M ws B) : Nat) : Int) / p.2), ((shr (stepPairs M ws B) : Nat) : Int))
def halfR (R : Plain) (d : Int) : List (List (Int × Int)) := if d = 0 then R.even else R.odd
def spLowest : Sp := fun vs H Q _ => ∃ t b : Int, vs = [.int t, .int b] ∧ 0 < b ∧ b.natAbs < 2 ^ 9000 ∧ ∀ p, H p = none → Q (.ref p) (upd H p (.tup [.int (lowT t b).1, .int (lowT t b).2]))
theorem shr_pos {ps : List (Int × Int)} (h : ∀ p, p ∈ ps → 0 < p.2) : 0 < shr ps := by
  have : ∀ (l : List (Int × Int)) (n : Nat), 0 < n → (∀ p, p ∈ l → 0 < p.2) → 0 < l.foldl (fun n p => Nat.lcm n p.2.natAbs) n := by
    intro l
    induction l with
    | nil => intro n hn _; exact hn
    | cons p l ih =>
      intro n hn hl
      refine ih _ (Nat.lcm_pos hn ?_) fun q hq => hl q (by simp [hq])
      have := hl p (by simp)
      omega
  exact this ps 1 (by decide) h
/-- values of a rule's lines as they are kept: a pair of a row of ints and an int -/
def ValAt (K : PySem.W.Frag) (H : Hp) (v : V) (x : List Int × Int) : Prop := ∃ (t c : Addr) (tt : Bool), v = .ref t ∧ SqT K H t [.ref c, .int x.2] ∧ SqK tt K H c (x.1.map V.int)
theorem ValAt.same {K : PySem.W.Frag} {H H' : Hp} {v : V} {x : List Int × Int} (s : Same H H') (h : ValAt K H v x) : ValAt K H' v x := by
  obtain ⟨t, c, tt, e, h1, h2⟩ := h
  exact ⟨t, c, tt, e, same_tup s h1, h2.same s⟩
/-- the same, and what can be written is new -/
def ValNew (K : PySem.W.Frag) (H0 H : Hp) (v : V) (x : List Int × Int) : Prop := ∃ (t c : Addr) (tt : Bool), v = .ref t ∧ SqT K H t [.ref c, .int x.2] ∧ SqK tt K H c (x.1.map V.int) ∧ (tt = false → H0 c = none)
theorem ValNew.at_ {K : PySem.W.Frag} {H0 H : Hp} {v : V} {x : List Int × Int} (h : ValNew K H0 H v x) : ValAt K H v x := by
  obtain ⟨t, c, tt, e, h1, h2, _⟩ := h
  exact ⟨t, c, tt, e, h1, h2⟩
theorem ValNew.same {K : PySem.W.Frag} {H0 H H' : Hp} {v : V} {x : List Int × Int} (s : Same H H') (h : ValNew K H0 H v x) : ValNew K H0 H' v x := by
  obtain ⟨t, c, tt, e, h1, h2, h3⟩ := h
  exact ⟨t, c, tt, e, same_tup s h1, h2.same s, h3⟩
theorem ValNew.old {K : PySem.W.Frag} {H0 H1 H : Hp} {v : V} {x : List Int × Int} (s : Same H0 H1) (h : ValNew K H1 H v x) : ValNew K H0 H v x := by
  obtain ⟨t, c, tt, e, h1, h2, h3⟩ := h
  exact ⟨t, c, tt, e, h1, h2, fun z => s.free (h3 z)⟩
/-- a store to what was there before -/
theorem ValNew.put {K : PySem.W.Frag} {H0 H : Hp} {D : Addr} {o q : HO} {v : V} {x : List Int × Int} (hD0 : H0 D ≠ none) (hD : H D = some o) (ho : isT o = false) (h : ValNew K H0 H v x) : ValNew K H0 (upd H D q) v x := by
  obtain ⟨t, c, tt, e, h1, h2, h3⟩ := h
  refine ⟨t, c, tt, e, tup_keepT (keepT_upd hD ho) h1, ?_, h3⟩
  cases tt
  · have hcD : c ≠ D := fun e2 => hD0 (by rw [← e2]; exact h3 rfl)
    rcases h2 with (h | ⟨o, h⟩) | h
    · exact .inl (.inl (by rw [upd_ne hcD]; exact h))
    · exact .inl (.inr ⟨o, by rw [upd_ne hcD]; exact h⟩)
    · exact .inr h
  · exact tup_keepT (keepT_upd hD ho) h2
/-- what a step asks of sizes -/
structure StepOk (M : List (List (Int × Int))) (ws : List Int) (B : Int) (m : Nat) : Prop where
  few : M.length ≤ 900
  rows : ∀ r, r ∈ M → RowB r ∧ (∀ p, p ∈ r → 0 < p.2) ∧ r.length ≤ ws.length
  wl : ws.length ≤ 900
  pos : 0 < B
  bb : B.natAbs < 2 ^ 60
  m0 : 0 < m
  small : ∀ z, z ∈ ws → z.natAbs < 2 ^ m
  mm : m ≤ 900000
  sh : ∀ i, shr ((stepPairs M ws B).take i) < 2 ^ 60
def spHalfValues (K : PySem.W.Frag) (C : Addr) : Sp := fun vs H Q _ => ∃ (a : Addr) (v : V) (d : Int) (R : Plain) (x : List Int × Int) (m : Nat), vs = [.ref a, v, .int d] ∧ RuleAt K C H a R ∧ ValAt K H v x ∧ (d = 0 ∨ d = 1) ∧ StepOk (halfR R d) x.1 x.2 m ∧
  ∀ H' p, Same H H' → H p = none → ValNew K H H' (.ref p) (stepV (halfR R d) x.1 x.2) → Q (.ref p) H'
theorem scLowest : FnScope ["top", "bottom", "common"] ["top", "bottom"] (defScope sLowestTerms) := ⟨rfl, rfl, rfl, by decide +kernel, rfl, by decide +kernel, by decide +kernel⟩
theorem scHalfValues : FnScope ["rule", "values", "digit", "tops", "bottom", "under", "pairs", "shared", "_", "own", "top"] ["rule", "values", "digit"] (defScope sHalfValues) := ⟨rfl, rfl, rfl, by decide +kernel, rfl, by decide +kernel, by decide +kernel⟩
theorem gcd_pos' {t b : Int} (hb : 0 < b) : 0 < Nat.gcd t.natAbs b.natAbs := Nat.gcd_pos_of_pos_right _ (by omega)
theorem lowT_spec {t b : Int} (hb : 0 < b) : 0 < (lowT t b).2 ∧ (lowT t b).1 * b = t * (lowT t b).2 ∧ (lowT t b).2.natAbs ≤ b.natAbs ∧ (lowT t b).1.natAbs ≤ t.natAbs ∧ (lowT t b).2 ∣ b := by
  have g0 := gcd_pos' (t := t) hb
  have gt : ((Nat.gcd t.natAbs b.natAbs : Nat) : Int) ∣ t := Int.natAbs_dvd_natAbs.1 (by simpa using Nat.gcd_dvd_left t.natAbs b.natAbs)
  have gb : ((Nat.gcd t.natAbs b.natAbs : Nat) : Int) ∣ b := Int.natAbs_dvd_natAbs.1 (by simpa using Nat.gcd_dvd_right t.natAbs b.natAbs)
  unfold lowT
  generalize Nat.gcd t.natAbs b.natAbs = g at *
  obtain ⟨x, hx⟩ := gt
  obtain ⟨y, hy⟩ := gb
  have gI : (0 : Int) < (g : Int) := by omega
  have e1 : t / (g : Int) = x := by rw [hx]; exact Int.mul_ediv_cancel_left _ (by omega)
  have e2 : b / (g : Int) = y := by rw [hy]; exact Int.mul_ediv_cancel_left _ (by omega)
  rw [e1, e2]
  refine ⟨Int.pos_of_mul_pos_right (by rw [← hy]; exact hb) (by omega), by rw [hx, hy]; grind, ?_, ?_, ⟨g, by rw [hy, Int.mul_comm]⟩⟩
  · rw [hy, Int.natAbs_mul, Int.natAbs_natCast]
    exact Nat.le_mul_of_pos_left _ g0
  · rw [hx, Int.natAbs_mul, Int.natAbs_natCast]
    exact Nat.le_mul_of_pos_left _ g0
section
variable {P : Program} {w : World} {K : PySem.W.Frag} {mg : Str → Option Value} {base : Heap}
theorem ok_lowest {f : Addr} {fd : FuncData} (F : Fun K "lowest_terms" "lowest_terms" sLowestTerms f fd) (G3 : mg "gcd" = some (.builtin "math.gcd")) : FnOk P w K mg base CX0 1 f fd ["top", "bottom"] spLowest := by
  refine F.ok scLowest (fun vs H Q E h => ?_) (fun cdv A outer s H vs Q E hr h => ?_)
  · obtain ⟨t, b, rfl, _⟩ := h
    rfl
  · obtain ⟨t, b, rfl, hb, hb2, k⟩ := h
    have nd := scLowest.nd
    refine ⟨_, pss_cons (ps_set (i := 2) nd rfl (Or.inl rfl) (pe_callBfun cr_gcd (by rfl) G3 (pa_cons (pv 0) (pa_cons (pv 1) pa_nil))))
      (pss_one (ps_ret (pe_tup (pa_cons (pe_op op_fdivW (pv 0) (pv 2)) (pa_cons (pe_op op_fdivW (pv 1) (pv 2)) pa_nil))))), ?_⟩
    have g0 := gcd_pos' (t := t) hb
    have gle : Nat.gcd t.natAbs b.natAbs ≤ b.natAbs := Nat.le_of_dvd (by omega) (Nat.gcd_dvd_right _ _)
    have cd : CDivW t ((Nat.gcd t.natAbs b.natAbs : Nat) : Int) := wide_div (by omega) (b := 9000) (by rw [natCast_natAbs]; omega) (by decide) (by decide)
    refine ⟨_, rfl, _, rfl, _, _, rfl, ?_⟩
    exact ⟨_, rfl, _, rfl, _, _, rfl, rfl, cd, _, rfl, _, rfl, _, _, rfl, rfl, cd, by show 2 ≤ sizeLine; decide, fun p np => k p np⟩
theorem ok_halfValues {C f fL fT : Addr} {fd fdL fdT : FuncData} (F : Fun K "half_values" "half_values" sHalfValues f fd) (B : BN mg) (T : PlainC K C) (GL : mg "lcm" = some (.builtin "math.lcm"))
    (FL : Fn' P w K mg base 1 "lowest_terms" fL fdL ["top", "bottom"] spLowest) (FT : Fn' P w K mg base 1 "row_times" fT fdT ["tops", "values"] (spRowTimes K)) :
    FnOk P w K mg base CX0 2 f fd ["rule", "values", "digit"] (spHalfValues K C) := by
  refine F.ok scHalfValues (fun vs H Q E h => ?_) (fun cdv A outer s H vs Q E hr h => ?_)
  · obtain ⟨a, v, d, R, x, m, rfl, _⟩ := h
    rfl
  · obtain ⟨a, v, d, R, ⟨ws, Bt⟩, m, rfl, hR, ⟨t, c, tt, rfl, ht, hc⟩, hd, hS, k⟩ := h
    obtain ⟨dx, hh, hs, hto, ae, ao, h1, h2, h3, h4, h5, h6⟩ := hR.ex
    have nd := scHalfValues.nd
    refine ⟨_, pss_cons (ps_asg (pv 1) (pg_tup rfl (pgs_cons (pg_name (i := 3) nd rfl (Or.inr rfl)) (pgs_cons (pg_name (i := 4) nd rfl (Or.inr rfl)) pgs_nil))))
      (pss_cons (ps_setLc (i := 6) (own := [("own", 9), ("under", 5)]) (g := gTup K 2 (gCons (gName 9) (gCons (gName 5) gNil))) (tt := tYes) (by rfl) nd rfl rfl (sw_true rfl rfl rfl (by decide +kernel)) (pi_list (pe_ix ix_tup (pe_fld (pv 0) rfl) (pv 2) (fun _ _ => rfl))) (blkOk_by (own := [("own", 9), ("under", 5)]) (N := ["rule", "values", "digit", "tops", "bottom", "under", "pairs", "shared", "_", "own", "top"]) (sc := defScope sHalfValues) (by decide +kernel))
          (fun _ _ _ _ _ => pg_tup rfl (pgs_cons (pg_name (i := 9) nd rfl (Or.inl rfl) (Or.inr rfl)) (pgs_cons (pg_name (i := 5) nd rfl (Or.inl rfl) (Or.inr rfl)) pgs_nil rfl) rfl) rfl rfl) (fun _ _ _ _ _ => pts_nil)
          (fun _ _ _ _ _ => pe_call FL.ok (by exact hr.mono (by decide)) (by rfl) FL.m FL.k FL.b .nil pass0 (pa_cons (pe_call FT.ok (by exact hr.mono (by decide)) (by rfl) FT.m FT.k FT.b .nil pass0 (pa_cons (pv 9) (pa_cons (pv 3) pa_nil))) (pa_cons (pe_op op_mulW (pv 5) (pv 4)) pa_nil))))
      (pss_cons (ps_set (i := 7) nd rfl (Or.inr rfl) pe_int)
      (pss_cons (ps_for PassesOwn.never rfl (pi_list (pv 6)) (pg_tup rfl (pgs_cons (pg_name (i := 8) nd rfl (Or.inl rfl)) (pgs_cons (pg_name (i := 5) nd rfl (Or.inl rfl)) pgs_nil)))
        (pss_one (ps_set (i := 7) nd rfl (Or.inr rfl) (pe_callBfun cr_lcm (by rfl) GL (pa_cons (pv 7) (pa_cons (pv 5) pa_nil))))))
      (pss_one (ps_ret (pe_tup (pa_cons (pe_lc (own := [("top", 10), ("under", 5)]) (g := gTup K 2 (gCons (gName 10) (gCons (gName 5) gNil))) (tt := tYes) rfl nd (pi_list (pv 6)) (blkOk_by (own := [("top", 10), ("under", 5)]) (N := ["rule", "values", "digit", "tops", "bottom", "under", "pairs", "shared", "_", "own", "top"]) (sc := defScope sHalfValues) (by decide +kernel))
          (fun _ _ _ _ _ => pg_tup rfl (pgs_cons (pg_name (i := 10) nd rfl (Or.inl rfl) (Or.inr rfl)) (pgs_cons (pg_name (i := 5) nd rfl (Or.inl rfl) (Or.inr rfl)) pgs_nil rfl) rfl) rfl rfl) (fun _ _ _ _ _ => pts_nil)
          (fun _ _ _ _ _ => pe_op op_mulW (pv 10) (pe_op op_fdivW (pv 7) (pv 5)))) (pa_cons (pv 7) pa_nil)))))))), ?_⟩
    refine ⟨_, rfl, t, _, rfl, ht, rfl, _, _, rfl, _, _, rfl, rfl, ?_⟩
    obtain ⟨e, xs, hat, hxl, hxx⟩ : ∃ e xs, atI [V.ref ae, V.ref ao] d = some (V.ref e) ∧ SqL K H e xs ∧ xs.length = (halfR R d).length ∧ ∀ (i : Nat) (x : V) (r : List (Int × Int)), xs[i]? = some x → (halfR R d)[i]? = some r → ShrAt K H x r := by
      rcases hd with rfl | rfl
      · obtain ⟨xs, q1, q2, q3⟩ := h3
        exact ⟨ae, xs, rfl, q1, q2, q3⟩
      · obtain ⟨xs, q1, q2, q3⟩ := h4
        exact ⟨ao, xs, rfl, q1, q2, q3⟩
    obtain ⟨hxlen, hxs⟩ := hxx
    generalize hM : halfR R d = M at *
    refine ⟨_, rfl, a, C, dx, _, _, rfl, h1, T.cl, T.nh, ruleF_h _ _ _, _, rfl, hh, _, d, .ref e, rfl, rfl, h2, hat, e, rfl, ⟨_, hxl⟩, fun D nD => ?_⟩
    have pair_at : ∀ {i : Nat}, i < M.length → ∃ r, M[i]? = some r := fun hi => ⟨_, List.getElem?_eq_getElem hi⟩
    refine lc_out (walk_list (xs := xs)) (fun i Hc => ∃ acc : List Addr, Grow H D (acc.map V.ref) Hc ∧ acc.length = i ∧ ∀ (j : Nat) (q : Addr) (p : Int × Int), acc[j]? = some q → (stepPairs M ws Bt)[j]? = some p → Hc q = some (.tup [.int p.1, .int p.2])) ⟨[], Grow.start nD, rfl, fun j q p h => by simp at h⟩ (fun i Hc _ ⟨acc, g, _⟩ => SqL.same hxl g.s) ?_ ?_
    · rintro i x H0 Hc hi ⟨acc, g, hacc, hall⟩ ⟨rfl, hx'⟩
      have hiM : i < M.length := by omega
      obtain ⟨r, er⟩ := pair_at hiM
      have hrm := List.mem_of_getElem? er
      obtain ⟨tr, dr, rfl, htr, hdr⟩ := hxs i x r hx' er
      obtain ⟨hrB, hrp, hrl⟩ := hS.rows r hrm
      have hSr : shr r < 2 ^ 60 := by have := hrB.2.1 r.length; rwa [List.take_length] at this
      have sp := shr_pos hrp
      refine ⟨tr, _, rfl, same_tup g.s htr, rfl, _, _, rfl, _, _, rfl, rfl, rfl, ?_⟩
      refine ⟨_, rfl, _, rfl, dr, c, tt, _, ws, 1060, m, rfl, g.s _ _ hdr, hc.same g.s, shRow_nodup _ _ _, fun j hj => ?_, ?_, shRow_small hrB, hS.small, by decide, hS.m0, by have := hS.mm; omega, fun H3 s3 => ?_⟩
      · have := shRow_keys _ _ _ _ hj
        have hrl' : r.length ≤ ws.length := hrl
        omega
      · have := shRow_len (shr r : Int) r 0
        have := hrB.1
        omega
      have hb60 : Bt.natAbs < 2 ^ 60 := hS.bb
      have hb0 : 0 < Bt := hS.pos
      have hmul : CMulW (shr r : Int) Bt := wide_mul (a := 60) (b := 60) (by rw [natCast_natAbs]; exact hSr) hb60 (by decide) (by decide) (by decide)
      refine ⟨_, rfl, _, rfl, _, _, rfl, rfl, hmul, _, _, rfl, Int.mul_pos (by omega) hb0, ?_, fun p np => ?_⟩
      · refine Nat.lt_of_lt_of_le (wide_lt (a := 60) (b := 60) (by rw [natCast_natAbs]; exact hSr) hb60) (Nat.pow_le_pow_right (by decide) (by decide))
      have hsp : (stepPairs M ws Bt)[i]? = some (lowT (rowTimes (shRow (shr r : Int) 0 r) ws) ((shr r : Int) * Bt)) := by
        unfold stepPairs
        rw [List.getElem?_map, er]; rfl
      have g3 := g.same s3
      have sN := same_new (o := .tup [V.int (lowT (rowTimes (shRow (shr r : Int) 0 r) ws) ((shr r : Int) * Bt)).1, .int (lowT (rowTimes (shRow (shr r : Int) 0 r) ws) ((shr r : Int) * Bt)).2]) np
      have g4 := g3.same sN
      have hp4 : (upd H3 p (.tup [V.int (lowT (rowTimes (shRow (shr r : Int) 0 r) ws) ((shr r : Int) * Bt)).1, .int (lowT (rowTimes (shRow (shr r : Int) 0 r) ws) ((shr r : Int) * Bt)).2])) p = some _ := upd_same
      refine ⟨_, g4.d, small1000 (by rw [List.length_map]; have := hS.few; omega), acc ++ [p], ?_, by simp [hacc], fun j q pp h1 h2 => ?_⟩
      · have := g4.step nD (V.ref p)
        rw [List.map_append]; exact this
      · have hpD : ∀ {y : Addr} {o : List V}, (upd H3 p (.tup [V.int (lowT (rowTimes (shRow (shr r : Int) 0 r) ws) ((shr r : Int) * Bt)).1, .int (lowT (rowTimes (shRow (shr r : Int) 0 r) ws) ((shr r : Int) * Bt)).2])) y = some (.tup o) → y ≠ D := fun {y o} hy e => by
          have := g4.d
          rw [← e, hy] at this; cases this
        by_cases hj : j < acc.length
        · rw [List.getElem?_append_left hj] at h1
          have h3 := sN _ _ (s3 _ _ (hall j q pp h1 h2))
          rw [upd_ne (hpD h3)]; exact h3
        · have hj2 : j = i := by
            have := (List.getElem?_eq_some_iff.1 h1).1
            simp at this; omega
          subst hj2
          rw [List.getElem?_append_right (by omega), hacc, Nat.sub_self] at h1
          cases h1
          rw [hsp] at h2
          cases h2
          rw [upd_ne (hpD hp4)]; exact hp4
    rintro H1 ⟨acc, g1, hacc, hall⟩
    rw [hxlen] at hacc
    have hps : (stepPairs M ws Bt).length = M.length := by simp [stepPairs]
    have item : ∀ {i : Nat}, i < M.length → ∃ (q : Addr) (p : Int × Int), acc[i]? = some q ∧ (stepPairs M ws Bt)[i]? = some p ∧ H1 q = some (.tup [.int p.1, .int p.2]) := fun {i} hi => by
      have e1 : acc[i]? = some acc[i] := List.getElem?_eq_getElem (by omega)
      have e2 : (stepPairs M ws Bt)[i]? = some (stepPairs M ws Bt)[i] := List.getElem?_eq_getElem (by omega)
      exact ⟨_, _, e1, e2, hall i _ _ e1 e2⟩
    have ppos : ∀ p, p ∈ stepPairs M ws Bt → 0 < p.2 ∧ p.2.natAbs < 2 ^ 120 ∧ p.1.natAbs < 2 ^ (10 + (1060 + m)) := fun p hp => by
      obtain ⟨r, hr, rfl⟩ := List.mem_map.1 hp
      obtain ⟨hrB, hrp, hrl⟩ := hS.rows r hr
      have hSr : shr r < 2 ^ 60 := by have := hrB.2.1 r.length; rwa [List.take_length] at this
      have sp := shr_pos hrp
      have hb0 : 0 < Bt := hS.pos
      have lt := lowT_spec (t := rowTimes (shRow (shr r : Int) 0 r) ws) (b := (shr r : Int) * Bt) (Int.mul_pos (by omega) hb0)
      refine ⟨lt.1, Nat.lt_of_le_of_lt lt.2.2.1 (wide_lt (a := 60) (b := 60) (by rw [natCast_natAbs]; exact hSr) hS.bb), Nat.lt_of_le_of_lt lt.2.2.2.1 ?_⟩
      have hs2 := shRow_small hrB
      have hl2 := shRow_len (shr r : Int) r 0
      have hr9 := hrB.1
      -- a sum of products
      have key : ∀ l : Halves.Row, (∀ q, q ∈ l → q.2.natAbs < 2 ^ 1060) → (rowTimes l ws).natAbs ≤ l.length * 2 ^ (1060 + m) := by
        intro l
        induction l with
        | nil => intro _; simp [rowTimes, prods]
        | cons q l ih =>
          intro hq
          have h1 := ih fun z hz => hq z (by simp [hz])
          have e : rowTimes (q :: l) ws = q.2 * ws.getD q.1 0 + rowTimes l ws := by simp [rowTimes, prods]
          have hg : (ws.getD q.1 0).natAbs < 2 ^ m := by
            by_cases hk : q.1 < ws.length
            · rw [List.getD_eq_getElem?_getD, List.getElem?_eq_getElem hk]; exact hS.small _ (List.getElem_mem hk)
            · rw [List.getD_eq_getElem?_getD, List.getElem?_eq_none (by omega)]; exact Nat.pow_pos (by decide)
          have h2 := wide_lt (hq q (by simp)) hg
          rw [e, List.length_cons, Nat.succ_mul]
          have := Int.natAbs_add_le (q.2 * ws.getD q.1 0) (rowTimes l ws)
          omega
      have h3 := key _ hs2
      have h4 : (shRow (shr r : Int) 0 r).length < 2 ^ 10 := by
        have e10 : (2 : Nat) ^ 10 = 1024 := by decide
        omega
      rw [Nat.pow_add]
      exact Nat.lt_of_le_of_lt h3 (Nat.mul_lt_mul_of_pos_right h4 (Nat.pow_pos (by decide)))
    -- what they share
    have sL : SqL K H1 D (acc.map V.ref) := SqL.of g1.d
    refine ⟨_, rfl, D, rfl, ⟨_, sL⟩, ?_⟩
    refine for_it (walk_list (xs := acc.map V.ref)) (fun i σ Hc => Hc = H1 ∧ ∃ x y : Option V, σ = [some (.ref a), some (.ref t), some (.int d), some (.ref c), some (.int Bt), x, some (.ref D), some (.int ((shr ((stepPairs M ws Bt).take i) : Nat) : Int)), y, none, none]) ⟨rfl, none, none, rfl⟩ (fun i σ Hc _ h => by rw [h.1]; exact sL) ?_ ?_
    · rintro i x σ H0 Hc hi ⟨rfl, y, z, rfl⟩ ⟨rfl, hx'⟩
      rw [List.length_map] at hi
      obtain ⟨q, p, e1, e2, hq⟩ := item (i := i) (by omega)
      rw [List.getElem?_map, e1] at hx'
      cases hx'
      have hpm := List.mem_of_getElem? e2
      refine ⟨q, _, rfl, SqT.of hq, rfl, _, _, rfl, _, _, rfl, rfl, ?_⟩
      refine ⟨_, rfl, _, rfl, _, _, rfl, ?_, ?_, rfl, some (.int p.2), some (.int p.1), ?_⟩
      · rw [natCast_natAbs]; exact Nat.lt_of_lt_of_le (hS.sh i) (Nat.pow_le_pow_right (by decide) (by decide))
      · exact Nat.lt_of_lt_of_le (ppos p hpm).2.1 (Nat.pow_le_pow_right (by decide) (by decide))
      · rw [take_snoc' _ i p e2, shr_snoc, natCast_natAbs]; rfl
    · rintro σ Hc ⟨rfl, y, z, rfl⟩
      have etk : (stepPairs M ws Bt).take (acc.map V.ref).length = stepPairs M ws Bt := List.take_of_length_le (by rw [List.length_map]; omega)
      rw [etk]
      have hSS : shr (stepPairs M ws Bt) < 2 ^ 60 := by have := hS.sh (stepPairs M ws Bt).length; rwa [List.take_length] at this
      refine ⟨_, rfl, D, rfl, ⟨_, sL⟩, fun D2 nD2 => ?_⟩
      refine lc_out (walk_list (xs := acc.map V.ref)) (fun i Hd => Grow Hc D2 ((((stepPairs M ws Bt).take i).map fun p => p.1 * (((shr (stepPairs M ws Bt) : Nat) : Int) / p.2)).map V.int) Hd) (Grow.start nD2) (fun i Hd _ g => SqL.same sL g.s) ?_ ?_
      · rintro i x Hd H3 hi g ⟨rfl, hx'⟩
        rw [List.length_map] at hi
        obtain ⟨q, p, e1, e2, hq⟩ := item (i := i) (by omega)
        rw [List.getElem?_map, e1] at hx'
        cases hx'
        have hpm := List.mem_of_getElem? e2
        have hp := ppos p hpm
        refine ⟨q, _, rfl, SqT.of (g.s _ _ hq), rfl, _, _, rfl, _, _, rfl, rfl, rfl, ?_⟩
        have cd : CDivW ((shr (stepPairs M ws Bt) : Nat) : Int) p.2 := wide_div hp.1 (b := 120) hp.2.1 (by decide) (by decide)
        have hle : ((((shr (stepPairs M ws Bt) : Nat) : Int)) / p.2).natAbs < 2 ^ 60 := Nat.lt_of_le_of_lt (Int.natAbs_ediv_le_natAbs _ _) (by rw [natCast_natAbs]; exact hSS)
        refine ⟨_, rfl, _, rfl, _, rfl, _, _, rfl, rfl, cd, _, _, rfl, rfl, wide_mul hp.2.2 hle (by omega) (by decide) (by have := hS.mm; omega), _, g.d, small1000 (by simp; have := hS.few; omega), ?_⟩
        have := g.step nD2 (V.int (p.1 * (((shr (stepPairs M ws Bt) : Nat) : Int) / p.2)))
        rw [take_snoc' _ i p e2, List.map_append, List.map_append]
        exact this
      · intro Hd g
        rw [etk] at g
        refine ⟨_, rfl, by show 2 ≤ sizeLine; decide, fun p np => ?_⟩
        have sN := same_new (o := .tup [V.ref D2, .int ((shr (stepPairs M ws Bt) : Nat) : Int)]) np
        have sAll := (g1.s.trans g.s).trans sN
        refine k _ p sAll ((g1.s.trans g.s).free np) ⟨p, D2, false, rfl, SqT.of upd_same, SqL.of (sN _ _ g.d), fun _ => g1.s.free nD2⟩
end
end L2.EH
end S_T7
section S_Z2
set_option maxRecDepth 100000
set_option maxHeartbeats 4000000
/-! dict comprehensions whose keys are tuples. -/
namespace L2.EH
open PySem PySem.Spec PyProof.Rows L2
section
variable {X : Cx}
/-- one store of a dict's block, for any kind of dict: what is asked of key, value, heap -/
structure DStore (o0 : HO) (St : Addr → V → V → Hp → (Hp → Prop) → Prop) : Prop where
  fresh : ∀ (P : Program) (w : World) (G : Hp) (h : Heap), sysModules < h.objs.size → ObjOk P w G (h.push { cls := .type "dict", data := .dict #[] }) h.objs.size o0
  store : ∀ (Y : Cx) (hu : Y.A.units + 1 < cLine) (pn : List (Addr × Obj)) (τ : L2.St) (G : Hp) (s : Shared) (D : Addr) (y z : V) (u r : Value) (N : Hp → Prop) (F : Value → Shared → Prop), Inv Y pn τ G s → RelV y u → RelV z r → St D y z G N →
    wpAny (model Y.prog Y.w) Y.A (dictSet D u r) (fun _ s' => ∃ G', Inv Y pn τ G' s' ∧ N G') F s
/-- {k: v for target in iter if ..}: the new dict at D begins as o0 -/
def tDcG (o0 : HO) (St : Addr → V → V → Hp → (Hp → Prop) → Prop) (wi : TI) (g : TG) (tt : TT) (tk tv : TE) (vs : List Nat) : TE := fun σ H Q => wi σ H fun J H1 => ∀ D, H1 D = none → ∃ W : Nat → Nat → Hp → Prop, (∃ m, W 0 m (upd H1 D o0)) ∧ ∀ i m H, W i m H →
  (J.stop i H ∧ Q (.ref D) H) ∨ (J.go i H ∧ ∃ Nx : Hp → Prop, (∀ H', Nx H' → ∃ m', m' < m ∧ W (i + 1) m' H') ∧ ∀ x H', J.yld i H x H' → g x (wipe σ vs) H' fun σ2 H2 => wipe σ2 vs = wipe σ vs ∧ tt σ2 H2 fun b H3 =>
    if b = true then tk σ2 H3 fun y H4 => tv σ2 H4 fun z H5 => St D y z H5 Nx else Nx H3)
theorem dcG_core {pn : List (Addr × Obj)} {st0 : Shared} {τ : L2.St} {G : Hp} {Q : VK} {pos' : Pos} {use : Option (Value → Sem Unit)} {Qf : Value → Shared → Prop} {o0 : HO} {St : Addr → V → V → Hp → (Hp → Prop) → Prop} (DS : DStore o0 St) {kx vx tg it0 : Expr} {ifs : List Expr} {sc : Scope} {own : List (Str × Nat)} {pos : Pos} {wi : TI} {g : TG} {tt : TT} {tk tv : TE} (hu : X.A.units + 1 < cLine) (calm : X.calm = true) (nodup : X.N.Nodup) (J0 : Inv X pn τ G st0) (pit : PI X tg it0 wi) (ok : BlkOk X.N X.env.scope sc own)
    (ptg : ∀ (s : Shared) (H : Hp) (C : Addr) (cl : List (Str × Addr)) (fp : List Addr), PG (X.blk s H sc (compEnvC sc cl C X.env) fp) tg g) (pif : ∀ (s : Shared) (H : Hp) (C : Addr) (cl : List (Str × Addr)) (fp : List Addr), PTs (X.blk s H sc (compEnvC sc cl C X.env) fp) ifs tt)
    (pkey : ∀ (s : Shared) (H : Hp) (C : Addr) (cl : List (Str × Addr)) (fp : List Addr), PE (X.blk s H sc (compEnvC sc cl C X.env) fp) kx tk)
    (pval : ∀ (s : Shared) (H : Hp) (C : Addr) (cl : List (Str × Addr)) (fp : List Addr), PE (X.blk s H sc (compEnvC sc cl C X.env) fp) vx tv) (notset : ∀ x, foldedSetIterable it0 X.env x = pure x)
    (h : tDcG o0 St wi g tt tk tv (own.map (·.2)) τ G Q)
    (hRR : ∀ D C s' m H', Inv X pn τ H' s' → Q (.ref D) H' → s'.heap.Ns C m → FpOk X pn H' C → compPost (model X.prog X.w) X.A X.xe use Qf (.ref D) C (.ok .next) s') :
    wpAny (model X.prog X.w) X.A (comprehension (.DictComp kx vx [⟨tg, it0, ifs, 0⟩] sc pos) sc X.env pos' newDict false (eval it0 X.env) use) Qf X.xe st0 := by
  have captured : ∀ y ∈ sc.names, y.2 = .free → ∃ c, X.env.cells.lookup y.1 = some c := fun y hy e => (ok.free y hy e).elim (fun q => J0.ok.has _ (.inl q)) fun q => J0.ok.has _ (.inr q)
  refine wpAny_comprehension_free (use := use) rfl notset (closure_ok captured) ok.kind (fun y hy e => by rw [ok.uniq y hy, e]) (thn (pit.run pn st0 τ G _ J0 h) fun v1 st1 q1 => thn q1 fun v2 st2 q2 => ?_)
  obtain ⟨ia, fp, tn, J, G2, rfl, J2, turns, at2, free2, q⟩ := q2
  refine wpAny_newObj_type (newEnv_comp ?_)
  -- the new dict stands at D
  obtain ⟨D, hD⟩ : ∃ D, D = st2.heap.objs.size := ⟨_, rfl⟩
  obtain ⟨W, ⟨m0, begins⟩, turn⟩ := q D (J2.hok.fresh (Nat.le_of_eq hD.symm))
  have J3 : Inv X pn τ (upd G2 D o0) { st2 with heap := st2.heap.push { cls := .type "dict", data := .dict #[] } } := by
    refine J2.laid (t' := st2.toks) (fun _ _ z => Heap.get?_push_of_some _ z) (Nat.le_of_eq hD.symm) ?_
    rw [hD]; exact DS.fresh _ _ _ _ J2.big
  rw [← hD]
  have low : ∀ b ∈ fp, b < st2.heap.objs.size := fun b hb => Heap.lt_size (turns.obj _ _ at2 b hb).choose_spec.1
  have free3 : ∀ b ∈ fp, FpOk X pn (upd G2 D o0) b ∧ b < (st2.heap.push { cls := .type "dict", data := .dict #[] }).objs.size := fun b hb =>
    ⟨⟨by rw [upd_ne (by rw [hD]; exact Nat.ne_of_lt (low b hb))]; exact (free2 b hb).1, (free2 b hb).2⟩, by rw [Heap.size_push]; exact Nat.lt_succ_of_lt (low b hb)⟩
  have at3 : tn 0 (st2.heap.push { cls := .type "dict", data := .dict #[] }) := turns.keep _ _ _ at2 fun _ _ _ z => Heap.get?_push_of_some _ z
  generalize e3 : ({ st2 with heap := st2.heap.push { cls := .type "dict", data := .dict #[] } } : Shared) = st3 at J3 ⊢
  have hp3 : st2.heap.push { cls := .type "dict", data := .dict #[] } = st3.heap := by rw [← e3]
  rw [hp3] at free3 at3
  have J4 := block_start J3 ok nodup free3
  obtain ⟨cl, hcl⟩ : ∃ cl, cl = cellsFrom (st3.heap.objs.size + 1) sc.names (cloFrom X.env.cells sc.names []) := ⟨_, rfl⟩
  have pg := ptg st3 (upd G2 D o0) st3.heap.objs.size cl fp
  have pt := pif st3 (upd G2 D o0) st3.heap.objs.size cl fp
  have pk := pkey st3 (upd G2 D o0) st3.heap.objs.size cl fp
  have pv' := pval st3 (upd G2 D o0) st3.heap.objs.size cl fp
  rw [← hcl] at J4
  obtain ⟨ce, hce⟩ : ∃ ce, ce = compEnvC sc cl st3.heap.objs.size X.env := ⟨_, rfl⟩
  rw [← hce] at J4 pg pt pk pv'
  have locs : ce.locals = st3.heap.objs.size := by rw [hce]; rfl
  have none3 : ∀ b ∈ fp, (upd G2 D o0) b = none := fun b hb => (free3 b hb).1.1
  show codeAny _ _ (.compStart (.DictComp kx vx [⟨tg, it0, ifs, 0⟩] sc pos) 0 (.ref ia) (.ref D) (compEnvC sc (cellsFrom (st3.heap.objs.size + 1) sc.names (cloFrom X.env.cells sc.names [])) st3.heap.objs.size X.env)) (compPost (model X.prog X.w) X.A X.xe use Qf (.ref D) st3.heap.objs.size) _
  rw [← hcl, ← hce]
  generalize hG3 : upd G2 D o0 = G3 at J3 J4 pg pt pk pv' begins none3 free3
  generalize e4 : ({ st3 with heap := pushCells (st3.heap.push { cls := .type "dict", data := .dict #[] }) sc.names } : Shared) = st4 at J4
  have at4 : tn 0 st4.heap := turns.keep _ _ _ at3 fun _ _ _ z => by rw [← e4]; exact pushCells_keeps _ _ _ _ (Heap.get?_push_of_some _ z)
  have unpins : ∀ {σ' : L2.St} {H' : Hp} {s' : Shared}, Inv (X.blk st3 G3 sc ce fp) [] σ' H' s' → (∀ b ∈ fp, H' b = none) → ∀ b ∈ fp, FpOk (X.blk st3 G3 sc ce fp) [] H' b := fun {_ _ _} K' z b hb =>
    ⟨z b hb, (K'.ok.exf b hb).1, K'.ok.exfs b hb, .inl hb, fun x c w => (K'.ok.exf b hb).2 x c w, fun p hp => by simp at hp⟩
  have loop : codeAny (model X.prog X.w) X.A (.compLoop (.DictComp kx vx [⟨tg, it0, ifs, 0⟩] sc pos) 0 (.ref ia) (.ref D) ce) (compPost (model X.prog X.w) X.A X.xe use Qf (.ref D) st3.heap.objs.size) st4 := by
    refine compLoop_anyD (fun m s' => ∃ i H', Inv (X.blk st3 G3 sc ce fp) [] (wipe τ (own.map (·.2))) H' s' ∧ tn i s'.heap ∧ (∀ b ∈ fp, H' b = none) ∧ W i m H') (fun m s5 hm => ?_) m0 ⟨0, G3, J4, at4, none3, begins⟩
    obtain ⟨i, H5, J5, at5, none5, w5⟩ := hm
    rcases turn i m H5 w5 with ⟨stop, qq⟩ | ⟨go, Nx, less, step⟩
    · -- no item is left
      refine thnF (turns.done (X.blk st3 G3 sc ce fp) rfl rfl rfl calm i [] s5 _ H5 (fun _ _ => False) J5 (unpins J5 none5) at5 stop) fun r s6 ⟨hr, J6⟩ => ?_
      subst hr
      have back : Inv X pn τ H5 s6 := J3.call' (ch := fp) J6.os J6.base J6.hok J6.bare fun b hb => let z := (free3 b hb).1.2; ⟨z.2.2.1, z.1, z.2.2.2.1, z.2.2.2.2⟩
      have gone : H5 st3.heap.objs.size = none := by rw [← locs]; exact J6.free
      obtain ⟨nm, hn, _⟩ := J6.loc
      have hn' : s6.heap.Ns st3.heap.objs.size nm := by rw [← locs]; exact hn
      exact hRR D st3.heap.objs.size s6 nm H5 back qq hn' (J3.fpOk (Nat.le_refl _) gone)
    · -- one more item
      refine thnF (turns.item (X.blk st3 G3 sc ce fp) rfl rfl rfl calm i [] s5 _ H5 (fun _ _ => False) J5 (unpins J5 none5) at5 go) fun r s6 ⟨u, hr, h6⟩ => ?_
      subst hr
      refine thnF h6 fun _ s7 ⟨x, H7, J7, r7, y7, at7, none7⟩ => ?_
      refine thnF (pg.run _ s7 _ H7 x u _ (J7.pinned (unpins J7 none7) (turns.obj _ _ at7)) r7 (step x H7 y7)) fun _ s8 ⟨σ8, H8, J8, wiped, q8⟩ => thnF (pt.run _ s8 σ8 H8 _ J8 q8) fun b s9 ⟨H9, J9, q9⟩ => ?_
      have ends : ∀ {s' : Shared} {H' : Hp}, Inv (X.blk st3 G3 sc ce fp) ([] ++ pinsAt fp s7.heap) σ8 H' s' → Nx H' → ∃ m', m' < m ∧ ∃ i H', Inv (X.blk st3 G3 sc ce fp) [] (wipe τ (own.map (·.2))) H' s' ∧ tn i s'.heap ∧ (∀ b ∈ fp, H' b = none) ∧ W i m' H' := fun {s' H'} K' nx => by
        obtain ⟨m', lt, w'⟩ := less H' nx
        have pinned : ∀ b ∈ fp, ∀ o, s7.heap.get? b = some o → s'.heap.get? b = some o ∧ H' b = none := fun b hb o z => by
          have y := K'.pin (b, o) (List.mem_append_right _ (List.mem_append_right _ (mem_pinsAt hb z)))
          exact ⟨y.1, y.2.1⟩
        refine ⟨m', lt, i + 1, H', (K'.unpinned (pins := [])).weak (by rw [← wiped, wipe_length]) (fun j v z => ?_), turns.keep _ _ _ at7 fun b hb o z => (pinned b hb o z).1, fun b hb => ?_, w'⟩
        · rw [← wiped] at z; exact (wipe_some z).1
        · exact (pinned b hb _ (turns.obj _ _ at7 b hb).choose_spec.1).2
      cases b
      · exact ends J9 q9
      · refine thnF (pk.run _ s9 σ8 H9 _ J9 q9) fun z s10 ⟨yk, H10, J10, r10, q10⟩ => thnF (pv'.run _ s10 σ8 H10 _ J10 q10) fun z2 s11 ⟨yv, H11, J11, r11, q11⟩ => ?_
        exact thnF (DS.store (X.blk st3 G3 sc ce fp) hu _ σ8 H11 s11 D yk yv z z2 Nx (fun _ _ => False) J11 r10 r11 q11) fun _ s12 ⟨H12, J12, nx⟩ => ends J12 nx
  exact codeAny_compStart_dict loop (turns.self X.A 0 _ _ _ at4 loop)
theorem pe_dcG {o0 : HO} {St : Addr → V → V → Hp → (Hp → Prop) → Prop} (DS : DStore o0 St) {kx vx tg it0 : Expr} {ifs : List Expr} {sc : Scope} {own : List (Str × Nat)} {pos : Pos} {wi : TI} {g : TG} {tt : TT} {tk tv : TE} (hu : X.A.units + 1 < cLine) (calm : X.calm = true) (nodup : X.N.Nodup) (pit : PI X tg it0 wi) (ok : BlkOk X.N X.env.scope sc own)
    (ptg : ∀ (s : Shared) (H : Hp) (C : Addr) (cl : List (Str × Addr)) (fp : List Addr), PG (X.blk s H sc (compEnvC sc cl C X.env) fp) tg g) (pif : ∀ (s : Shared) (H : Hp) (C : Addr) (cl : List (Str × Addr)) (fp : List Addr), PTs (X.blk s H sc (compEnvC sc cl C X.env) fp) ifs tt)
    (pkey : ∀ (s : Shared) (H : Hp) (C : Addr) (cl : List (Str × Addr)) (fp : List Addr), PE (X.blk s H sc (compEnvC sc cl C X.env) fp) kx tk)
    (pval : ∀ (s : Shared) (H : Hp) (C : Addr) (cl : List (Str × Addr)) (fp : List Addr), PE (X.blk s H sc (compEnvC sc cl C X.env) fp) vx tv) (notset : ∀ x, foldedSetIterable it0 X.env x = pure x := by intro _; rfl) :
    PE X (.DictComp kx vx [⟨tg, it0, ifs, 0⟩] sc pos) (tDcG o0 St wi g tt tk tv (own.map (·.2))) := by
  refine ⟨fun pn st0 τ G Q J0 h => ?_⟩
  rw [arm_eval_DictComp]
  refine dcG_core (Qf := EP X pn τ Q) DS hu calm nodup J0 pit ok ptg pif pkey pval notset h fun D C s' m H' I' q hn f => ⟨m, hn, fun h'' sb => ?_⟩
  obtain ⟨f0, f1, f2, f3, f4, f5⟩ := f
  exact ⟨.ref D, H', I'.turned (t' := s'.toks) (fun b o hb z => (sb.2 b hb).trans z) f0 f1 f3 f4 f5, rfl, q⟩
theorem ps_setDcG {i : Nat} {y : Str} {py : Pos} {o0 : HO} {St : Addr → V → V → Hp → (Hp → Prop) → Prop} (DS : DStore o0 St) {kx vx tg it0 : Expr} {ifs : List Expr} {sc : Scope} {own : List (Str × Nat)} {pos spos : Pos} {wi : TI} {g : TG} {tt : TT} {tk tv : TE} (hu : X.A.units + 1 < cLine) (calm : X.calm = true) (nodup : X.N.Nodup) (hy : X.N[i]? = some y) (hyl : X.env.scope.names.lookup y = some .local)
    (hsw : swapsWith (.DictComp kx vx [⟨tg, it0, ifs, 0⟩] sc pos) (some (.Name y py)) spos.line X.env = pure true) (pit : PI X tg it0 wi) (ok : BlkOk X.N X.env.scope sc own)
    (ptg : ∀ (s : Shared) (H : Hp) (C : Addr) (cl : List (Str × Addr)) (fp : List Addr), PG (X.blk s H sc (compEnvC sc cl C X.env) fp) tg g) (pif : ∀ (s : Shared) (H : Hp) (C : Addr) (cl : List (Str × Addr)) (fp : List Addr), PTs (X.blk s H sc (compEnvC sc cl C X.env) fp) ifs tt)
    (pkey : ∀ (s : Shared) (H : Hp) (C : Addr) (cl : List (Str × Addr)) (fp : List Addr), PE (X.blk s H sc (compEnvC sc cl C X.env) fp) kx tk)
    (pval : ∀ (s : Shared) (H : Hp) (C : Addr) (cl : List (Str × Addr)) (fp : List Addr), PE (X.blk s H sc (compEnvC sc cl C X.env) fp) vx tv) (notset : ∀ x, foldedSetIterable it0 X.env x = pure x := by intro _; rfl) :
    PS X (.Assign [.Name y py] (.DictComp kx vx [⟨tg, it0, ifs, 0⟩] sc pos) spos) (tAsg (tDcG o0 St wi g tt tk tv (own.map (·.2))) (gName i)) := by
  refine ⟨fun pn st0 τ G D J0 h => ?_⟩
  rw [exec_Assign_Name_used _ _ _ _ hsw]
  refine wpAny_bind (wpAny_standAt (wpAny_bind ?_))
  show wpAny _ X.A (do let _ ← comprehension (.DictComp kx vx [⟨tg, it0, ifs, 0⟩] sc pos) sc X.env (firstIterPos [⟨tg, it0, ifs, 0⟩] pos) newDict false (eval it0 X.env) (some (assign (.Name y py) X.env))) _ _ st0
  have h : tDcG o0 St wi g tt tk tv (own.map (·.2)) τ G (fun x H1 => gName i x τ H1 D.nx) := h
  refine wpAny_bind (thn (dcG_core (Qf := fun _ s' => SP X pn D .next s') DS hu calm nodup J0 pit ok ptg pif pkey pval notset h fun L C s' m H' I' q hn f => ?_) fun _ s' hq => wpAny_pure (wpAny_pure hq))
  show wpAny _ _ (assign (.Name y py) X.env (.ref L)) _ _ _
  refine wpAny_assign_Name (store_ok2 (v := V.ref L) I' nodup hy (.inl hyl) rfl (fun s2 I2 ⟨a, sb, ha⟩ => ?_) (.inr hyl))
  obtain ⟨f0, f1, f2, f3, f4, f5⟩ := f
  have haC : C ≠ a := by
    rcases ha with z | z
    · rw [z]; exact f1
    · exact fun e => f4 y a z e.symm
  refine ⟨m, hn.sameBut sb haC, fun h3 sb3 => ?_⟩
  exact ⟨_, H', I2.turned (t' := s2.toks) (fun b o hb e => (sb3.2 b hb).trans e) f0 f1 f3 f4 f5, q⟩
theorem sw_trueD {kx vx : Expr} {gs : List Comprehension} {scope : Scope} {pos py : Pos} {y : Str} {l : Nat} {env : Env} (hk : env.scope.kind = .function) (hy : env.scope.names.lookup y = some .local) (hl : (py.line == pos.line) = true)
    (ha : (scope.names.any fun (n, k) => n == y && (k == .local || k == .cell)) = false) : swapsWith (.DictComp kx vx gs scope pos) (some (.Name y py)) l env = pure true := by
  have ky : env.kindOf y = some .local := hy
  have kb : env.blockKind = .function := by unfold Env.blockKind; rw [hk]; rfl
  unfold swapsWith
  simp only [kb, ky, ha, Expr.pos, hl]
  rfl
/-! ### keys that are tuples of ints -/
def StT (D : Addr) (y z : V) (H : Hp) (N : Hp → Prop) : Prop := ∃ (kvs : List (List Key × V)) (k : List Key) (b : Addr), y = .ref b ∧ H b = some (.tup (k.map kV)) ∧ H D = some (.dT kvs) ∧ kvs.length < sizeLine ∧ N (upd H D (.dT (putK kvs k z)))
theorem dstT : DStore (.dT []) StT where
  fresh := fun P w G h low => dt_empty h low
  store := fun Y hu pn τ G s D y z u r N F J ru rr ⟨kvs, k, b, ey, eb, eD, l, n⟩ => by
    cases (show u = Value.ref b by rw [ey] at ru; exact ru)
    obtain ⟨z1, low, xs, rel, dd⟩ := dt_of J.hok eD
    have fits : (putK kvs k z).length ≤ sizeLine := by have := length_putK kvs k z; omega
    refine wpAny_dictSet_heap (hsz := by rw [← Paired.length rel]; exact z1) (Nat.lt_of_succ_lt hu) (key_of J.hok eb) dd fun h' dd' same => ⟨_, ?_, n⟩
    obtain ⟨q, es, ep, hq, h2, h3, h4, _, h5⟩ := dd'
    refine d_write J (by rw [eD]; exact True.intro) same ⟨q, hq⟩ ⟨fits, low, _, (rel.put k eb rr).keeps fun c ys ec => ?_, q, es, ep, hq, h2, h3, h4, h5⟩
    rw [upd_ne (ne_of ec eD (fun z => nomatch z))]; exact ec
end
end L2.EH
end S_Z2
section S_Z11
set_option maxRecDepth 100000
set_option maxHeartbeats 4000000
/-! {key: value} with one pair, the key an int or a text -/
namespace L2.EH
open PySem PySem.Spec PyProof.Rows L2
def tDisp1K (tk tv : TE) : TE := fun σ H Q => ∀ D, H D = none → tk σ (upd H D (.dK [])) fun y H1 => tv σ H1 fun z H2 => ∃ kvs k, y = kV k ∧ H2 D = some (.dK kvs) ∧ kvs.length < sizeLine ∧ Q (.ref D) (upd H2 D (.dK (putK kvs k z)))
theorem pe_disp1K {X : Cx} {k v : Expr} {tk tv : TE} {pos : Pos} (hk : PE X k tk) (hv : PE X v tv) : PE X (.Dict [some k] [v] pos) (tDisp1K tk tv) := by
  refine ⟨fun pn s σ H Q J h => ?_⟩
  have hn := J.hok.fresh (Nat.le_refl s.heap.objs.size)
  have J1 := J.laid (a := s.heap.objs.size) (o := .dK []) (h' := s.heap.push { cls := .type "dict", data := .dict #[] }) (t' := s.toks) (fun _ _ q => Heap.get?_push_of_some _ q) (Nat.le_refl _) (dk_empty s.heap J.big)
  have hz := zip_pairTrees [some k] [v] X.env pos rfl rfl
  rw [arm_eval_Dict, hz, dictDisplay_pairs (pairTrees [some k] [v] X.env pos) (by simp [pairTrees]) (by simp [pairTrees])]
  refine wpAny_bind (wpAny_standAt (wpAny_bind ?_))
  unfold subDict
  refine wpAny_bind (wpAny_alloc ?_)
  refine wpAny_bind (wpAny_holding ?_)
  rw [if_pos (by simp [pairTrees])]
  refine wpAny_bind ?_
  refine pairTrees_cons_walk (thn (hk.run pn _ σ _ _ J1 (h _ hn)) fun u s1 ⟨y, H1, J2, ry, q1⟩ => thn (hv.run pn s1 σ H1 _ J2 q1) fun r s2 ⟨z, H2, J3, rz, kvs, k, ey, hD, hl, q2⟩ => pairTrees_nil_walk ?_)
  subst ey
  refine wpAny_holding ?_
  simp only [List.forIn_cons, List.forIn_nil, bind_assoc, pure_bind]
  refine wpAny_bind (d_dictSet J3 hD hl ry rz fun s3 J4 => ?_)
  exact wpAny_pure (wpAny_pure (wpAny_pure ⟨.ref s.heap.objs.size, _, J4, rfl, q2⟩))
def StK (D : Addr) (y z : V) (H : Hp) (N : Hp → Prop) : Prop := ∃ (kvs : List (Key × V)) (k : Key), y = kV k ∧ H D = some (.dK kvs) ∧ kvs.length < sizeLine ∧ N (upd H D (.dK (putK kvs k z)))
theorem dstK : DStore (.dK []) StK where
  fresh := fun P w G h low => dk_empty h low
  store := fun Y hu pn τ G s D y z u r N F J ru rr ⟨kvs, k, ey, eD, l, n⟩ => by
    subst ey
    exact d_dictSet J eD l ru rr fun s' J' => ⟨_, J', n⟩
/-! ### any of a tuple of ints -/
def rAnyT (K : PySem.W.Frag) : List V → Hp → VK → Prop := fun vs H Q => ∃ (a : Addr) (ns : List Int), vs = [V.ref a] ∧ SqT K H a (ns.map V.int) ∧ Q (.bl (ns.any (· != 0))) H
theorem plain_ints : ∀ r : List Int, PyData.plainAll (r.map .int) = true
  | [] => by simp [PyData.plainAll]
  | x :: r => by simp [PyData.plainAll, plain_ints r, PyData.plain]
theorem cr_anyT {X : Cx} (hc : X.calm = true) : CallR X (.builtin "any") (rAnyT X.K) := by
  intro pins s σ H vs us Q I r h
  obtain ⟨a, ns, rfl, hs, q⟩ := h
  rw [Vals.ref1 r]
  obtain ⟨as, rd⟩ := Dp.reads I _ (V.ref a) (Value.ref a) (row_dp hs) rfl
  cases rd with
  | tuple h1 h2 h3 hr =>
    refine PySem.W.any_tuple_data (I.ok.hd hc) ⟨_, h1, h2, _, h3⟩ hr (plain_ints ns) (fun x hx => by obtain ⟨i, _, rfl⟩ := List.mem_map.1 hx; trivial) fun h' tk hk => ?_
    refine ⟨.bl _, H, I.kept fun b o eo => hk b o eo, ?_, q⟩
    show Value.bool _ = Value.bool _
    rw [List.any_map]; rfl
end L2.EH
end S_Z11
section S_T8
set_option exponentiation.threshold 20000
set_option maxRecDepth 100000
set_option maxHeartbeats 4000000
namespace L2.EH
open PySem PySem.Spec PyProof.Rows StX
open L2.Halves (has keys)
/-! ### values at numbers -/
def valQ (R : Plain) (n : Nat) : List Int × Int :=
  if h : n = 0 then (R.firsts, 1) else stepV (halfR R ((n % 2 : Nat) : Int)) (valQ R (n / 2)).1 (valQ R (n / 2)).2
termination_by n
decreasing_by all_goals omega
theorem valQ_zero (R : Plain) : valQ R 0 = (R.firsts, 1) := by rw [valQ]; rfl
theorem valQ_pos (R : Plain) {n : Nat} (h : 0 < n) : valQ R n = stepV (halfR R ((n % 2 : Nat) : Int)) (valQ R (n / 2)).1 (valQ R (n / 2)).2 := by
  rw [valQ, dif_neg (by omega)]
def Steps (R : Plain) (z m : Nat) : Prop := ∀ n, 0 < n → (∃ j, n = z / 2 ^ j) → StepOk (halfR R ((n % 2 : Nat) : Int)) (valQ R (n / 2)).1 (valQ R (n / 2)).2 m
/-- a dict of values by numbers -/
def KnownV (K : PySem.W.Frag) (H0 H : Hp) (R : Plain) (kvs : List (Key × V)) : Prop := ∀ (n : Nat) v, valV kvs (Sum.inl (n : Int)) = some v → ValNew K H0 H v (valQ R n)
theorem KnownV.same {K : PySem.W.Frag} {H0 H H' : Hp} {R : Plain} {kvs : List (Key × V)} (s : Same H H') (h : KnownV K H0 H R kvs) : KnownV K H0 H' R kvs := fun n v e => (h n v e).same s
def natsV (zs : List Nat) : List V := zs.map fun (z : Nat) => V.int (z : Int)
def spValuesAtAll (K : PySem.W.Frag) (C : Addr) : Sp := fun vs H Q _ => ∃ (a l : Addr) (R : Plain) (zs : List Nat) (m : Nat), vs = [.ref a, .ref l] ∧ RuleAt K C H a R ∧ SqL K H l (natsV zs) ∧ zs.length ≤ 1000 ∧ (∀ z, z ∈ zs → z < 2 ^ 1100 ∧ Steps R z m) ∧
  ∀ H' D kvs, Same H H' → H D = none → H' D = some (.dK kvs) → KnownV K H H' R kvs → (∀ z, z ∈ zs → (valV kvs (Sum.inl (z : Int))).isSome = true) → Q (.ref D) H'
theorem scValuesAtAll : FnScope ["rule", "numbers", "known", "number", "shift", "values", "at"] ["rule", "numbers"] (defScope sValuesAtAll) := ⟨rfl, rfl, rfl, by decide +kernel, rfl, by decide +kernel, by decide +kernel⟩
/-- a store to a dict that is new -/
theorem ValNew.upd {K : PySem.W.Frag} {H0 H : Hp} {D : Addr} {kv kv' : List (Key × V)} {v : V} {x : List Int × Int} (hD : H D = some (.dK kv)) (h : ValNew K H0 H v x) : ValNew K H0 (upd H D (.dK kv')) v x := by
  obtain ⟨t, c, tt, e, h1, h2, h3⟩ := h
  refine ⟨t, c, tt, e, tup_keepT (keepT_upd hD rfl) h1, ?_, h3⟩
  cases tt
  · rcases h2 with (h | ⟨o, h⟩) | h
    · exact .inl (.inl (by rw [upd_ne (by intro z; rw [z, hD] at h; cases h)]; exact h))
    · exact .inl (.inr ⟨o, by rw [upd_ne (by intro z; rw [z, hD] at h; cases h)]; exact h⟩)
    · exact .inr h
  · exact tup_keepT (keepT_upd hD rfl) h2
section
variable {P : Program} {w : World} {K : PySem.W.Frag} {mg : Str → Option Value} {base : Heap}
theorem ok_valuesAtAll {C f fH : Addr} {fd fdH : FuncData} (F : Fun K "values_at_all" "values_at_all" sValuesAtAll f fd) (B : BN mg) (T : PlainC K C)
    (FH : Fn' P w K mg base 2 "half_values" fH fdH ["rule", "values", "digit"] (spHalfValues K C)) :
    FnOk P w K mg base CX0 3 f fd ["rule", "numbers"] (spValuesAtAll K C) := by
  refine F.ok scValuesAtAll (fun vs H Q E h => ?_) (fun cdv A outer s H vs Q E hr h => ?_)
  · obtain ⟨a, l, R, zs, m, rfl, _⟩ := h
    rfl
  · obtain ⟨a, l, R, zs, m, rfl, hR, hl, hzl, hz, k⟩ := h
    have hu := hu_of hr
    have nd := scValuesAtAll.nd
    refine ⟨_, pss_cons (ps_set (i := 2) nd rfl (Or.inl rfl) (pe_disp1K pe_int (pe_tup (pa_cons (pe_fld (pv 0) rfl) (pa_cons pe_int pa_nil)))))
      (pss_cons (ps_for PassesOwn.never rfl (pi_list (pv 1)) (pg_name (i := 3) nd rfl (Or.inl rfl))
        (pss_cons (ps_set (i := 4) nd rfl (Or.inl rfl) pe_int)
        (pss_cons (ps_while PassesOwn.never (pt_cmp (pc_dnotin (by exact hu) (pe_op op_shrN (pv 3) (pv 4)) (pv 2))) (pss_one (ps_aug (i := 4) nd rfl (Or.inl rfl) pe_int ip_add)))
        (pss_cons (ps_set (i := 5) nd rfl (Or.inl rfl) (pe_dget (by exact hu) (pv 2) (pe_op op_shrN (pv 3) (pv 4)) (fun _ _ => rfl)))
        (pss_cons (ps_for PassesOwn.never rfl (pi_revR (by rfl) B.reversed (prg_1 (by rfl) B.range (pv 4))) (pg_name (i := 6) nd rfl (Or.inl rfl))
          (pss_one (ps_set (i := 5) nd rfl (Or.inl rfl) (pe_call FH.ok (by exact hr) (by rfl) FH.m FH.k FH.b .nil pass0 (pa_cons (pv 0) (pa_cons (pv 5) (pa_cons (pe_op op_andM (pe_op op_shrN (pv 3) (pv 6)) pe_int) pa_nil)))))))
        (pss_one (ps_dput (by exact hu) (pv 2) (pv 3) (pv 5) rfl)))))))
      (pss_one (ps_ret (pv 2)))), ?_⟩
    obtain ⟨dx, hh, hs, hto, ae, ao, h1, h2, h3, h4, h5, h6⟩ := id hR.ex
    intro D nD
    have sD := same_new (o := .dK []) nD
    refine ⟨_, rfl, a, C, dx, _, _, rfl, sD _ _ h1, T.cl, T.ns, ruleF_s _ _ _, by show 2 ≤ sizeLine; decide, fun t nt => ?_⟩
    have st := same_new (o := .tup [V.ref hs, .int 1]) nt
    have ht : (upd (upd H D (.dK [])) t (.tup [V.ref hs, .int 1])) t = some (.tup [V.ref hs, .int 1]) := upd_same
    have hD1 : (upd (upd H D (.dK [])) t (.tup [V.ref hs, .int 1])) D = some (.dK []) := st _ _ upd_same
    have s01 := sD.trans st
    generalize (upd (upd H D (.dK [])) t (.tup [V.ref hs, .int 1])) = H1 at *
    refine ⟨[], Sum.inl 0, rfl, hD1, by show 0 < sizeLine; decide, ?_⟩
    have v0 : ValNew K H H1 (.ref t) (valQ R 0) := by
      rw [valQ_zero]
      exact ⟨t, hs, true, rfl, SqT.of ht, same_tup s01 h5, fun z => by cases z⟩
    -- what stands in H stands, but for D
    have up : ∀ {Hc : Hp} {kv kv' : List (Key × V)}, Hc D = some (.dK kv) → Same H Hc → Same H (upd Hc D (.dK kv')) := fun hDc s c o hc => by
      rw [upd_ne (by intro z; rw [z, nD] at hc; cases hc)]; exact s _ _ hc
    refine ⟨_, rfl, l, rfl, ⟨_, (up hD1 s01).seq hl⟩, ?_⟩
    refine for_it (walk_list (xs := natsV zs)) (fun i σ Hc => ∃ (kvs : List (Key × V)) (x y z q : Option V), σ = [some (.ref a), some (.ref l), some (.ref D), x, y, z, q] ∧ Same H Hc ∧ Hc D = some (.dK kvs) ∧ KnownV K H Hc R kvs ∧ kvs.length ≤ i + 1 ∧
        (valV kvs (Sum.inl 0)).isSome = true ∧ ∀ z, z ∈ zs.take i → (valV kvs (Sum.inl (z : Int))).isSome = true) ⟨putK [] (Sum.inl 0) (.ref t), none, none, none, none, rfl, up hD1 s01, upd_same, fun n v e => ?_, by have := length_putK ([] : List (Key × V)) (Sum.inl 0) (.ref t); simpa using this, by rw [valV_put, if_pos rfl]; rfl, by simp⟩ (fun i σ Hc _ ⟨kvs, x, y, z, q, _, s', _⟩ => s'.seq hl) ?_ ?_
    · rw [valV_put] at e
      by_cases hn : (Sum.inl (n : Int) : Key) = Sum.inl 0
      · rw [if_pos hn] at e
        cases e
        have : n = 0 := by injection hn with hn; omega
        subst this
        exact v0.upd hD1
      · rw [if_neg hn] at e
        cases e
    · rintro i x0 σ Hc0 Hc hi ⟨kvs, x, y, zz, q, rfl, s2, hDc, hK, hkl, hk0, hkz⟩ ⟨rfl, hx'⟩
      unfold natsV at hx' hi
      rw [List.length_map] at hi
      rw [List.getElem?_map] at hx'
      have ez : zs[i]? = some zs[i] := List.getElem?_eq_getElem hi
      rw [ez] at hx'
      cases hx'
      generalize hzi : zs[i] = z at *
      have hzm : z ∈ zs := List.mem_of_getElem? ez
      obtain ⟨hzlt, hst⟩ := hz z hzm
      have hdiv : ∀ j : Nat, ((z : Int) / 2 ^ j) = ((z / 2 ^ j : Nat) : Int) := fun j => by
        rw [Int.natCast_ediv, Int.natCast_pow]; rfl
      -- the while loop: the first shift that is known
      refine while_by (fun σ H' => H' = Hc ∧ ∃ (sft : Nat), σ = [some (.ref a), some (.ref l), some (.ref D), some (.int (z : Int)), some (.int (sft : Int)), zz, q] ∧ sft ≤ 1100 ∧ ∀ j, j < sft → 0 < z / 2 ^ j)
        (fun (σ : L2.St) _ => match σ[4]? with
          | some (some (V.int s)) => 1101 - s.toNat
          | _ => 0) ⟨rfl, 0, rfl, by omega, fun j hj => by omega⟩ ?_ ?_
      · rintro σ H' ⟨rfl, sft, rfl, hsl, hpos⟩
        refine ⟨_, rfl, _, rfl, _, _, rfl, rfl, _, rfl, D, _, rfl, .inl ⟨kvs, Sum.inl ((z : Int) / 2 ^ sft), .inl hDc, rfl, rfl⟩, _, rfl, ?_⟩
        rw [hdiv]
        cases ev : valV kvs (Sum.inl ((z / 2 ^ sft : Nat) : Int)) with
        | none =>
          refine iteT ⟨_, rfl, _, _, rfl, rfl, ?_⟩
          have hp0 : 0 < z / 2 ^ sft := by
            rcases Nat.eq_zero_or_pos (z / 2 ^ sft) with e0 | e0
            · rw [e0] at ev
              rw [show ((0 : Nat) : Int) = 0 from rfl] at ev
              rw [ev] at hk0; cases hk0
            · exact e0
          have hs11 : sft < 1100 := by
            rcases Nat.lt_or_ge sft 1100 with h' | h'
            · exact h'
            · exfalso
              have : 2 ^ 1100 ≤ 2 ^ sft := Nat.pow_le_pow_right (by decide) h'
              have := Nat.div_eq_of_lt (show z < 2 ^ sft by omega)
              omega
          refine ⟨⟨rfl, sft + 1, ?_, by omega, fun j hj => ?_⟩, ?_⟩
          · show [_, _, _, _, some (V.int ((sft : Int) + 1)), _, _] = _
            rw [show ((sft : Int) + 1) = ((sft + 1 : Nat) : Int) by omega]
          · by_cases hjs : j < sft
            · exact hpos j hjs
            · have : j = sft := by omega
              subst this; exact hp0
          · show 1101 - ((sft : Int) + 1).toNat < 1101 - (sft : Int).toNat
            omega
        | some v =>
          refine iteF ?_
          refine ⟨_, rfl, _, rfl, _, rfl, _, _, rfl, rfl, D, v, rfl, .inl ⟨kvs, Sum.inl ((z : Int) / 2 ^ sft), .inl hDc, rfl, by rw [hdiv, ev]⟩, ?_⟩
          refine ⟨_, rfl, _, rfl, by decide, by decide, by omega, by omega, ?_⟩
          have esub : ((sft : Int) - 0).toNat = sft := by omega
          rw [esub]
          refine for_it (walk_rangeC (n := sft)) (fun i σ Hd => Same H' Hd ∧ ∃ (u : V) (x : Option V), σ = [some (.ref a), some (.ref l), some (.ref D), some (.int (z : Int)), some (.int (sft : Int)), some u, x] ∧ ValNew K H Hd u (valQ R (z / 2 ^ (sft - i)))) ⟨Same.refl _, v, q, rfl, hK _ _ ev⟩ (fun _ _ _ _ _ => trivial) ?_ ?_
          · rintro i2 x2 σ Hd0 Hd hi2 ⟨s3, u, x, rfl, hu2⟩ ⟨rfl, rfl⟩
            have eI : (0 + ((sft : Nat) : Int) - 1 + (i2 : Nat) * -1) = ((sft - 1 - i2 : Nat) : Int) := by omega
            show gName 6 (V.int (0 + ((sft : Nat) : Int) - 1 + (i2 : Nat) * -1)) _ _ _
            rw [eI]
            have hj : sft - 1 - i2 < sft := by omega
            have hp := hpos _ hj
            have e2 : z / 2 ^ (sft - i2) = z / 2 ^ (sft - 1 - i2) / 2 := by
              rw [Nat.div_div_eq_div_mul, ← Nat.pow_succ]
              congr 2; omega
            have hso := hst _ hp ⟨_, rfl⟩
            rw [e2] at hu2
            have em : (((z / 2 ^ (sft - 1 - i2) : Nat) : Int)) % 2 ^ 1 = ((z / 2 ^ (sft - 1 - i2) % 2 : Nat) : Int) := by
              rw [show (2 : Int) ^ 1 = 2 from rfl]; omega
            refine ⟨_, rfl, _, rfl, _, rfl, _, rfl, _, _, rfl, rfl, _, 1, rfl, rfl, ?_⟩
            rw [hdiv, em]
            refine ⟨a, u, _, R, _, m, rfl, (hR.same s2).same s3, hu2.at_, by omega, hso, fun He p s4 np hp4 => ?_⟩
            refine ⟨s3.trans s4, .ref p, some _, rfl, ?_⟩
            rw [show sft - (i2 + 1) = sft - 1 - i2 by omega, valQ_pos R hp]
            exact hp4.old (s2.trans s3)
          · rintro σ Hd ⟨s3, u, x, rfl, hu2⟩
            rw [Nat.sub_self, Nat.pow_zero, Nat.div_one] at hu2
            have hDd := s3 _ _ hDc
            refine ⟨_, rfl, _, rfl, _, rfl, D, _, rfl, DPut.k (k := Sum.inl (z : Int)) hDd (small1000 (by omega)), ?_⟩
            refine ⟨putK kvs (Sum.inl (z : Int)) u, _, _, _, _, rfl, up hDd (s2.trans s3), upd_same, fun n v' e => ?_, by have := length_putK kvs (Sum.inl (z : Int)) u; omega, ?_, fun z' hz' => ?_⟩
            · rw [valV_put] at e
              by_cases hn : (Sum.inl (n : Int) : Key) = Sum.inl (z : Int)
              · rw [if_pos hn] at e
                cases e
                have : n = z := by injection hn with hn; omega
                subst this
                exact hu2.upd hDd
              · rw [if_neg hn] at e
                exact ((hK n v' e).same s3).upd hDd
            · rw [valV_put]; split
              · rfl
              · exact hk0
            · rw [valV_put]
              by_cases hn : (Sum.inl (z' : Int) : Key) = Sum.inl (z : Int)
              · rw [if_pos hn]; rfl
              · rw [if_neg hn]
                rw [take_snoc' zs i z ez] at hz'
                rcases List.mem_append.1 hz' with h | h
                · exact hkz z' h
                · exact absurd (by rw [List.mem_singleton.1 h]) hn
      · rintro σ H' Q1 Q2 hq ⟨v, e1, v2, e2, i1, k1, e3, e4, v3, e5, D', o, e6, dg, c, ec, h⟩
        exact ⟨v, e1, v2, e2, i1, k1, e3, e4, v3, e5, D', o, e6, dg, c, ec, hq _ _ h⟩
    · rintro σ Hc ⟨kvs, x, y, zz, q, rfl, s2, hDc, hK, hkl, hk0, hkz⟩
      have : (natsV zs).length = zs.length := by simp [natsV]
      rw [this, List.take_length] at hkz
      exact ⟨_, rfl, k Hc D kvs s2 nD hDc hK hkz⟩
end
end L2.EH
end S_T8
section S_T9
set_option exponentiation.threshold 20000
set_option maxRecDepth 100000
set_option maxHeartbeats 4000000
namespace L2.EH
open PySem PySem.Spec PyProof.Rows StX
open L2.Halves (has keys)
/-! ### what is told, and sums of it -/
def toldV (R : Plain) (x : List Int × Int) : Int × Int := (rowTimes (shRow (shr R.told : Int) 0 R.told) x.1, (shr R.told : Int) * x.2)
structure ToldOk (R : Plain) (x : List Int × Int) (m : Nat) : Prop where
  row : RowB R.told
  len : R.told.length ≤ x.1.length
  bb : x.2.natAbs < 2 ^ 60
  m0 : 0 < m
  small : ∀ z, z ∈ x.1 → z.natAbs < 2 ^ m
  mm : m ≤ 900000
def spToldValue (K : PySem.W.Frag) (C : Addr) : Sp := fun vs H Q _ => ∃ (a : Addr) (v : V) (R : Plain) (x : List Int × Int) (m : Nat), vs = [.ref a, v] ∧ RuleAt K C H a R ∧ ValAt K H v x ∧ ToldOk R x m ∧
  ∀ H' p, Same H H' → H p = none → H' p = some (.tup [.int (toldV R x).1, .int (toldV R x).2]) → Q (.ref p) H'
theorem scToldValue : FnScope ["rule", "values", "tops", "bottom", "own", "under"] ["rule", "values"] (defScope sToldValue) := ⟨rfl, rfl, rfl, by decide +kernel, rfl, by decide +kernel, by decide +kernel⟩
def PairsAt (K : PySem.W.Frag) (H : Hp) (l : Addr) (ps : List (Int × Int)) : Prop := ∃ xs : List V, SqL K H l xs ∧ xs.length = ps.length ∧ ∀ (i : Nat) x p, xs[i]? = some x → ps[i]? = some p → ∃ t : Addr, x = .ref t ∧ SqT K H t [.int p.1, .int p.2]
def sumUp (fs : List Int) (ps : List (Int × Int)) : List Int := List.zipWith (fun f p => f * p.1 * (((shr ps : Nat) : Int) / p.2)) fs ps
def addsUp (fs : List Int) (ps : List (Int × Int)) : Int := (sumUp fs ps).sum
structure AddOk (fs : List Int) (ps : List (Int × Int)) : Prop where
  few : ps.length ≤ 900
  len : fs.length = ps.length
  pos : ∀ p, p ∈ ps → 0 < p.2 ∧ p.2.natAbs < 2 ^ 9000 ∧ p.1.natAbs < 2 ^ 900000
  sh : ∀ i, shr (ps.take i) < 2 ^ 13400
  f : ∀ f, f ∈ fs → f.natAbs < 2 ^ 1000
def spAddsUp (K : PySem.W.Frag) : Sp := fun vs H Q _ => ∃ (a l : Addr) (fs : List Int) (ps : List (Int × Int)), vs = [.ref a, .ref l] ∧ SqT K H a (fs.map V.int) ∧ PairsAt K H l ps ∧ AddOk fs ps ∧ ∀ H', Same H H' → Q (.bl (decide (addsUp fs ps = 0))) H'
theorem scAddsUp : FnScope ["factors", "pairs", "shared", "_", "bottom", "factor", "top"] ["factors", "pairs"] (defScope sAddsUp) := ⟨rfl, rfl, rfl, by decide +kernel, rfl, by decide +kernel, by decide +kernel⟩
section
variable {P : Program} {w : World} {K : PySem.W.Frag} {mg : Str → Option Value} {base : Heap}
theorem ok_toldValue {C f fT : Addr} {fd fdT : FuncData} (F : Fun K "told_value" "told_value" sToldValue f fd) (T : PlainC K C) (FT : Fn' P w K mg base 1 "row_times" fT fdT ["tops", "values"] (spRowTimes K)) :
    FnOk P w K mg base CX0 2 f fd ["rule", "values"] (spToldValue K C) := by
  refine F.ok scToldValue (fun vs H Q E h => ?_) (fun cdv A outer s H vs Q E hr h => ?_)
  · obtain ⟨a, v, R, x, m, rfl, _⟩ := h
    rfl
  · obtain ⟨a, v, R, ⟨ws, Bt⟩, m, rfl, hR, ⟨t, c, tt, rfl, ht, hc⟩, hT, k⟩ := h
    obtain ⟨dx, hh, hs, hto, ae, ao, h1, h2, h3, h4, h5, ⟨t', d, e0, h6, h7⟩⟩ := hR.ex
    cases e0
    have nd := scToldValue.nd
    refine ⟨_, pss_cons (ps_asg (pv 1) (pg_tup rfl (pgs_cons (pg_name (i := 2) nd rfl (Or.inl rfl)) (pgs_cons (pg_name (i := 3) nd rfl (Or.inl rfl)) pgs_nil))))
      (pss_cons (ps_asg (pe_fld (pv 0) rfl) (pg_tup rfl (pgs_cons (pg_name (i := 4) nd rfl (Or.inl rfl)) (pgs_cons (pg_name (i := 5) nd rfl (Or.inl rfl)) pgs_nil))))
      (pss_one (ps_ret (pe_tup (pa_cons (pe_call FT.ok (by exact hr) (by rfl) FT.m FT.k FT.b .nil pass0 (pa_cons (pv 4) (pa_cons (pv 2) pa_nil))) (pa_cons (pe_op op_mulW (pv 5) (pv 3)) pa_nil)))))), ?_⟩
    refine ⟨_, rfl, t, _, rfl, ht, rfl, _, _, rfl, _, _, rfl, rfl, ?_⟩
    refine ⟨_, rfl, a, C, dx, _, _, rfl, h1, T.cl, T.na, ruleF_a _ _ _, hto, _, rfl, h6, rfl, _, _, rfl, _, _, rfl, rfl, ?_⟩
    have hS : shr R.told < 2 ^ 60 := by have := hT.row.2.1 R.told.length; rwa [List.take_length] at this
    refine ⟨_, rfl, _, rfl, d, c, tt, _, ws, 1060, m, rfl, h7, hc, shRow_nodup _ _ _, fun j hj => ?_, ?_, shRow_small hT.row, hT.small, by decide, hT.m0, by have := hT.mm; omega, fun H3 s3 => ?_⟩
    · have := shRow_keys _ _ _ _ hj
      have hrl : R.told.length ≤ ws.length := hT.len
      omega
    · have := shRow_len (shr R.told : Int) R.told 0
      have := hT.row.1
      omega
    refine ⟨_, rfl, _, rfl, _, _, rfl, rfl, wide_mul (a := 60) (b := 60) (by rw [natCast_natAbs]; exact hS) hT.bb (by decide) (by decide) (by decide), by show 2 ≤ sizeLine; decide, fun p np => ?_⟩
    exact k _ p (s3.trans (same_new np)) (s3.free np) upd_same
theorem ok_addsUp {f : Addr} {fd : FuncData} (F : Fun K "adds_up_to_0" "adds_up_to_0" sAddsUp f fd) (B : BN mg) (GL : mg "lcm" = some (.builtin "math.lcm")) :
    FnOk P w K mg base CX0 1 f fd ["factors", "pairs"] (spAddsUp K) := by
  refine F.ok scAddsUp (fun vs H Q E h => ?_) (fun cdv A outer s H vs Q E hr h => ?_)
  · obtain ⟨a, l, fs, ps, rfl, _⟩ := h
    rfl
  · obtain ⟨a, l, fs, ps, rfl, ha, ⟨xs, hl, hxl, hx⟩, hA, k⟩ := h
    have nd := scAddsUp.nd
    refine ⟨_, pss_cons (ps_set (i := 2) nd rfl (Or.inr rfl) pe_int)
      (pss_cons (ps_for PassesOwn.never rfl (pi_list (pv 1)) (pg_tup rfl (pgs_cons (pg_name (i := 3) nd rfl (Or.inl rfl)) (pgs_cons (pg_name (i := 4) nd rfl (Or.inl rfl)) pgs_nil)))
        (pss_one (ps_set (i := 2) nd rfl (Or.inr rfl) (pe_callBfun cr_lcm (by rfl) GL (pa_cons (pv 2) (pa_cons (pv 4) pa_nil))))))
      (pss_one (ps_ret (pe_cmpR op_eq (pe_callB (cr_sum rfl) (by rfl) B.sum (by decide +kernel) (pa_cons (pe_lc (own := [("factor", 5), ("top", 6), ("bottom", 4)]) (g := gTup K 2 (gCons (gName 5) (gCons (gTup K 2 (gCons (gName 6) (gCons (gName 4) gNil))) gNil))) (tt := tYes) rfl nd (pi_zipK true false (by rfl) B.zip (pa_cons (pv 0) (pa_cons (pv 1) pa_nil))) (blkOk_by (own := [("factor", 5), ("top", 6), ("bottom", 4)]) (N := ["factors", "pairs", "shared", "_", "bottom", "factor", "top"]) (sc := defScope sAddsUp) (by decide +kernel))
          (fun _ _ _ _ _ => pg_tup rfl (pgs_cons (pg_name (i := 5) nd rfl (Or.inl rfl) (Or.inr rfl)) (pgs_cons (pg_tup rfl (pgs_cons (pg_name (i := 6) nd rfl (Or.inl rfl) (Or.inr rfl)) (pgs_cons (pg_name (i := 4) nd rfl (Or.inl rfl) (Or.inr rfl)) pgs_nil rfl) rfl) rfl rfl) pgs_nil rfl) rfl) rfl rfl) (fun _ _ _ _ _ => pts_nil)
          (fun _ _ _ _ _ => pe_op op_mulW (pe_op op_mulW (pv 5) (pv 6)) (pe_op op_fdivW (pv 2) (pv 4)))) pa_nil)) pe_int (nomark _))))), ?_⟩
    have item : ∀ {i : Nat} {x : V}, xs[i]? = some x → ∃ (t : Addr) (p : Int × Int), x = .ref t ∧ ps[i]? = some p ∧ SqT K H t [.int p.1, .int p.2] := fun {i x} e => by
      have hi := (List.getElem?_eq_some_iff.1 e).1
      have e2 : ps[i]? = some ps[i] := List.getElem?_eq_getElem (by omega)
      obtain ⟨t, e3, h⟩ := hx i x _ e e2
      exact ⟨t, _, e3, e2, h⟩
    refine ⟨_, rfl, l, rfl, ⟨_, hl⟩, ?_⟩
    refine for_it (walk_list (xs := xs)) (fun i σ Hc => Hc = H ∧ ∃ x y : Option V, σ = [some (.ref a), some (.ref l), some (.int ((shr (ps.take i) : Nat) : Int)), x, y, none, none]) ⟨rfl, none, none, rfl⟩ (fun i σ Hc _ h => by rw [h.1]; exact hl) ?_ ?_
    · rintro i x σ H0 Hc hi ⟨rfl, y, z, rfl⟩ ⟨rfl, hx'⟩
      obtain ⟨t, p, rfl, e2, ht⟩ := item hx'
      have hpm := List.mem_of_getElem? e2
      refine ⟨t, _, rfl, ht, rfl, _, _, rfl, _, _, rfl, rfl, ?_⟩
      refine ⟨_, rfl, _, rfl, _, _, rfl, ?_, ?_, rfl, some (.int p.1), some (.int p.2), ?_⟩
      · rw [natCast_natAbs]; exact hA.sh i
      · exact Nat.lt_of_lt_of_le (hA.pos p hpm).2.1 (Nat.pow_le_pow_right (by decide) (by decide))
      · rw [take_snoc' _ i p e2, shr_snoc, natCast_natAbs]; rfl
    · rintro σ Hc ⟨rfl, y, z, rfl⟩
      rw [hxl, List.take_length]
      have hSS : shr ps < 2 ^ 13400 := by have := hA.sh ps.length; rwa [List.take_length] at this
      have hsl : (sumUp fs ps).length = ps.length := by simp [sumUp, hA.len]
      refine ⟨_, rfl, _, rfl, a, l, fs.map V.int, xs, rfl, ha, hl, fun D nD => ?_⟩
      refine lc_out (walk_zipK (t := true) (u := false) (n := ps.length) (by rw [List.length_map, hA.len, hxl]; simp)) (fun i Hd => Grow Hc D (((sumUp fs ps).take i).map V.int) Hd) (Grow.start nD) (fun i Hd _ g => ⟨same_tup g.s ha, SqL.same hl g.s⟩) ?_ ?_
      · rintro i x Hd0 Hd hi g ⟨T, u1, u2, rfl, hT, rfl, e1, e2⟩
        replace e1 : (fs.map V.int)[i]? = some u1 := e1
        replace e2 : xs[i]? = some u2 := e2
        obtain ⟨t, p, rfl, ep, ht⟩ := item e2
        rw [List.getElem?_map] at e1
        cases ef : fs[i]? with
        | none => rw [ef] at e1; cases e1
        | some fz =>
          rw [ef] at e1
          cases e1
          have hpm := List.mem_of_getElem? ep
          have hp := hA.pos p hpm
          have hf := hA.f fz (List.mem_of_getElem? ef)
          have sT := same_new (o := .tup [V.int fz, .ref t]) hT
          have s2 := g.s.trans sT
          have g2 := g.same sT
          refine ⟨T, _, rfl, SqT.of upd_same, rfl, _, _, rfl, _, _, rfl, ⟨t, _, rfl, same_tup s2 ht, rfl, _, _, rfl, _, _, rfl, rfl, ?_⟩⟩
          refine ⟨rfl, rfl, ?_⟩
          have cd : CDivW ((shr ps : Nat) : Int) p.2 := wide_div hp.1 (b := 9000) hp.2.1 (by decide) (by decide)
          have hle : (((shr ps : Nat) : Int) / p.2).natAbs < 2 ^ 13400 := Nat.lt_of_le_of_lt (Int.natAbs_ediv_le_natAbs _ _) (by rw [natCast_natAbs]; exact hSS)
          have m1 := wide_mul (a := 1000) (b := 900000) hf hp.2.2 (by decide) (by decide) (by decide)
          have m2 := wide_mul (a := 1000 + 900000) (b := 13400) (wide_lt hf hp.2.2) hle (by decide) (by decide) (by decide)
          refine ⟨_, rfl, _, rfl, _, _, rfl, rfl, m1, _, rfl, _, rfl, _, _, rfl, rfl, cd, _, _, rfl, rfl, m2, _, g2.d, small1000 (by rw [List.length_map, List.length_take]; have := hA.few; omega), ?_⟩
          have := g2.step nD (V.int (fz * p.1 * (((shr ps : Nat) : Int) / p.2)))
          rw [take_snoc' (sumUp fs ps) i (fz * p.1 * (((shr ps : Nat) : Int) / p.2)) (by unfold sumUp; rw [List.getElem?_zipWith, ef, ep]), List.map_append]
          exact this
      · intro Hd g
        rw [List.take_of_length_le (by omega)] at g
        refine ⟨D, _, rfl, SqL.of g.d, rfl, ?_⟩
        rw [eq_int_dec]
        exact k _ g.s
end
end L2.EH
end S_T9
section S_Z3
set_option maxRecDepth 100000
set_option maxHeartbeats 4000000
/-! x, *ys = t; repr of True, False and lists of them; in of a tuple of tuples. -/
namespace L2.EH
open PySem PySem.Spec PyProof.Rows L2
section
variable {X : Cx}
def gStar (K : PySem.W.Frag) (g1 g2 : TG) : TG := fun v σ H Q => ∃ (a : Addr) (x : V) (xs : List V), v = .ref a ∧ SqT K H a (x :: xs) ∧ ∀ D, H D = none → g1 x σ (upd H D (.lst xs)) fun σ' H' => g2 (.ref D) σ' H' Q
theorem pg_star {t1 t2 : Expr} {g1 g2 : TG} {k : Nat} {pos p : Pos} (calm : X.calm = true) (h1 : PG X t1 g1) (h2 : PG X t2 g2) (he : assignEach [t1, .Starred t2 p] X.env = [(false, assign t1 X.env), (true, assign t2 X.env)] := by rfl) :
    PG X (.Tuple [t1, .Starred t2 p] k pos) (gStar X.K g1 g2) := by
  constructor
  intro pn s τ G v u Q J r hw
  obtain ⟨a, x, xs, rfl, ht, step⟩ := hw
  cases r
  obtain ⟨its, rel, tup, few⟩ := J.tuple ht
  cases rel with
  | @cons _ u1 _ us r1 rs =>
    have hh : X.A.handled = none := J.ok.hd calm
    have fit2 : us.length + 1 ≤ sizeLine := by have : (x :: xs).length ≤ sizeLine := few
                                               rw [List.length_cons, rs.length] at this; exact this
    have lt : a ≠ s.heap.objs.size := by obtain ⟨o, ho, _⟩ := tup; exact Nat.ne_of_lt (Heap.lt_size ho)
    rw [assign_Tuple, he]
    refine wpAny_bind (wpAny_standAt ?_)
    show wpAny _ _ (holding [Value.ref a] (unpackItems (.ref a) 2 (some 1)) >>= fun l => assignInOrder [assign t1 X.env, assign t2 X.env] l) _ _ _
    refine wpAny_bind (wpAny_holding ?_)
    unfold unpackItems notIterableAtAll
    refine wpAny_bind (wpAny_bind (wpAny_specialOf (IsTup.typeIs tup) slot_tuple_iter.lookup (wpAny_pure ?_)))
    show wpAny _ _ (if false = true then _ else _) _ _ s
    rw [if_neg Bool.false_ne_true]
    refine wpAny_bind (wpAny_holding (iter_tuple tup ?_))
    refine wpAny_bind (wpAny_holding (draw_tuple lt 1 0 _ _ ⟨_, Heap.get?_push_size _ rfl, rfl, rfl⟩ (tup.push _) (by simp) fun h₁ it₁ sb₁ => ?_))
    have tup₁ : IsTup h₁ a (u1 :: us).toArray := (tup.push _).extBut sb₁.extBut lt
    obtain ⟨oi, hoi, _⟩ := id it₁
    obtain ⟨ol, hol, _⟩ := id tup₁
    show wpAny _ _ (if ([u1] : List Value).length < 1 then _ else _) _ _ _
    rw [if_neg (show ¬ ([u1] : List Value).length < 1 from Nat.lt_irrefl 1)]
    refine wpAny_bind (wpAny_holding (PySem.W.kun_collect (s := { s with heap := h₁ }) (T := "tuple_iterator") (.inr (.inr (.inr rfl))) (Walks.tuple (A := X.A.in1) hh s.heap.objs.size a lt (u1 :: us).toArray) (fun j w st => st.1.typeIs) (k := 1) (by simp) ⟨it₁, tup₁⟩ (Heap.lt_size hoi) (Heap.lt_size hol) (fun h₂ tk hk => ?_) (by simpa using fit2)))
    show wpAny _ _ (if us.length < 0 then _ else _) _ _ _
    rw [if_neg (Nat.not_lt_zero _)]
    show wpAny _ _ (newList (us.take us.length) >>= fun d => pure ([u1] ++ [d] ++ us.drop us.length)) _ _ _
    rw [List.take_length, List.drop_length]
    have J2 : Inv X pn τ G { s with heap := h₂, toks := tk } := J.kept (t' := tk) fun b o e => hk b o (Nat.ne_of_lt (Heap.lt_size e)) (sb₁.extBut b o (Nat.ne_of_lt (Heap.lt_size e)) (Heap.get?_push_of_some _ e))
    have free : G h₂.objs.size = none := J2.hok.fresh (Nat.le_refl _)
    have fits : us.length ≤ sizeLine := by omega
    refine wpAny_bind (wpAny_newObj_type ?_ (by show us.toArray.size ≤ sizeLine; simpa using fits))
    refine wpAny_pure ?_
    have J3 := J2.laid (a := h₂.objs.size) (o := .lst xs) (t' := tk) (fun b o e => Heap.get?_push_of_some _ e) (Nat.le_refl _) ⟨by rw [rs.length]; exact fits, us, 0, rs, Heap.get?_push_size _ rfl⟩
    refine assignInOrder_cons (thn (h1.run pn _ τ _ x u1 _ J3 r1 (step _ free)) fun _ s5 ⟨τ5, H5, J5, q5⟩ => ?_)
    refine assignInOrder_cons (thn (h2.run pn _ τ5 _ (.ref h₂.objs.size) _ _ J5 rfl q5) fun _ s6 q6 => ?_)
    exact assignInOrder_nil q6
end
/-! ### order of tuples of ints, in of a tuple of data -/
theorem row_alike : ∀ (a b : List Int), PySem.W.alikeAll (a.map .int) (b.map .int) = true
  | [], b => by simp [PySem.W.alikeAll]
  | x :: a, [] => by simp [PySem.W.alikeAll]
  | x :: a, y :: b => by simp [PySem.W.alikeAll, PySem.W.alike, row_alike a b]
theorem depth_ints : ∀ r : List Int, PyData.depthAll (r.map .int) = 0
  | [] => by simp [PyData.depthAll]
  | x :: r => by simp [PyData.depthAll, depth_ints r, PyData.depth]
theorem depth_row (r : List Int) : (rowD r).depth = 1 := by simp [rowD, PyData.depth, depth_ints r]
theorem rowLt_ints (a b : List Int) : PySem.W.dataLt (rowD a) (rowD b) = decide (a < b) := by
  unfold rowD
  rw [PySem.W.dataLt_tuple]
  exact PySem.W.dataLt_ints a b
def rRowLt (K : PySem.W.Frag) : R2 := fun x y H Q => ∃ a b : List Int, Dp K H x (rowD a) ∧ Dp K H y (rowD b) ∧ Q (.bl (decide (a < b))) H
def rRowGe (K : PySem.W.Frag) : R2 := fun x y H Q => ∃ a b : List Int, Dp K H x (rowD a) ∧ Dp K H y (rowD b) ∧ Q (.bl (!decide (a < b))) H
theorem op_rowLt {X : Cx} (hu : X.A.units + 2 < cLine) : OpR X (compareOp .Lt) (rRowLt X.K) := by
  intro pn s τ G x y v u Q J rx ry h
  obtain ⟨a, b, da, db, q⟩ := h
  obtain ⟨as, r1⟩ := Dp.reads J _ x v da rx
  obtain ⟨bs, r2⟩ := Dp.reads J _ y u db ry
  refine PySem.W.lt_data r1 r2 (by simpa [rowD, PySem.W.alike] using row_alike a b) (fun z => by cases z) ?_ (by rw [rowLt_ints]; exact ⟨.bl _, G, J, rfl, q⟩)
  rw [depth_row, depth_row, Nat.min_self]; omega
theorem op_rowGe {X : Cx} (hu : X.A.units + 2 < cLine) : OpR X (compareOp .GtE) (rRowGe X.K) := by
  intro pn s τ G x y v u Q J rx ry h
  obtain ⟨a, b, da, db, q⟩ := h
  obtain ⟨as, r1⟩ := Dp.reads J _ x v da rx
  obtain ⟨bs, r2⟩ := Dp.reads J _ y u db ry
  refine PySem.W.ge_data r1 r2 (by simpa [rowD, PySem.W.alike] using row_alike a b) (fun z => by cases z) ?_ (by rw [rowLt_ints]; exact ⟨.bl _, G, J, rfl, q⟩)
  rw [depth_row, depth_row, Nat.min_self]; omega
theorem lay_ints : ∀ r : List Int, PyData.canLayAll0 (r.map .int) = true
  | [] => by simp [PyData.canLayAll0]
  | x :: r => by simp [PyData.canLayAll0, lay_ints r, PyData.canLay0]
theorem lay_row (r : List Int) : (rowD r).canLay0 = true := by simpa [rowD, PyData.canLay0] using lay_ints r
theorem lay_rows : ∀ rs : List (List Int), PyData.canLayAll0 (rs.map rowD) = true
  | [] => by simp [PyData.canLayAll0]
  | r :: rs => by simp [PyData.canLayAll0, lay_rows rs, lay_row r]
theorem eqv_ints : ∀ a b : List Int, PyData.eqvAll (a.map .int) (b.map .int) = decide (a = b)
  | [], [] => by simp [PyData.eqvAll]
  | [], y :: b => by simp [PyData.eqvAll]
  | x :: a, [] => by simp [PyData.eqvAll]
  | x :: a, y :: b => by
    simp only [List.map_cons, PyData.eqvAll, eqv_ints a b, PyData.eqv]
    by_cases h : x = y
    · by_cases h2 : a = b
      · simp [h, h2]
      · simp [h2]
    · simp [h]
theorem eqv_row (a b : List Int) : PyData.eqv (rowD a) (rowD b) = decide (a = b) := by
  unfold rowD
  simp only [PyData.eqv]
  exact eqv_ints a b
def rRowIn (neg : Bool) (K : PySem.W.Frag) : R2 := fun x y H Q => ∃ (a : List Int) (rs : List (List Int)), Dp K H x (rowD a) ∧ Dp K H y (.tuple (rs.map rowD)) ∧ Q (.bl (if neg then !decide (a ∈ rs) else decide (a ∈ rs))) H
theorem any_row (a : List Int) (rs : List (List Int)) : ((rs.map rowD).any fun z => PyData.eqv z (rowD a)) = decide (a ∈ rs) := by
  rw [List.any_map]
  by_cases h : a ∈ rs
  · rw [decide_eq_true h]
    exact List.any_eq_true.mpr ⟨a, h, by show PyData.eqv (rowD a) (rowD a) = true; rw [eqv_row]; simp⟩
  · rw [decide_eq_false h]
    refine List.any_eq_false.mpr fun b hb hq => h ?_
    have : PyData.eqv (rowD b) (rowD a) = true := hq
    rw [eqv_row] at this
    exact of_decide_eq_true this ▸ hb
theorem op_rowIn {X : Cx} (hu : X.A.units + 4 < cLine) : OpR X (compareOp .In) (rRowIn false X.K) := by
  intro pn s τ G x y v u Q J rx ry h
  obtain ⟨a, rs, da, db, q⟩ := h
  obtain ⟨as, r1⟩ := Dp.reads J _ x v da rx
  obtain ⟨bs, r2⟩ := Dp.reads J _ y u db ry
  refine SeqAt.in_tuple_reads r2 r1 (lay_rows rs) (lay_row a) ?_ (by rw [any_row]; exact ⟨.bl _, G, J, rfl, q⟩)
  rw [depth_row]; omega
theorem op_rowNotIn {X : Cx} (hu : X.A.units + 4 < cLine) : OpR X (compareOp .NotIn) (rRowIn true X.K) := by
  intro pn s τ G x y v u Q J rx ry h
  obtain ⟨a, rs, da, db, q⟩ := h
  obtain ⟨as, r1⟩ := Dp.reads J _ x v da rx
  obtain ⟨bs, r2⟩ := Dp.reads J _ y u db ry
  refine SeqAt.notIn_tuple_reads r2 r1 (lay_rows rs) (lay_row a) ?_ (by rw [any_row]; exact ⟨.bl _, G, J, rfl, q⟩)
  rw [depth_row]; omega
end L2.EH
end S_Z3
section S_T10
set_option exponentiation.threshold 20000
set_option maxRecDepth 100000
set_option maxHeartbeats 4000000
namespace L2.EH
open PySem PySem.Spec PyProof.Rows StX
/-! ### ascending numbers -/
def AscInts (lo : Int) : List Int → Prop
  | [] => True
  | x :: r => lo < x ∧ AscInts x r
def ascT (lo : Int) : List Th → Bool
  | [] => true
  | .int z :: xs => decide (lo < z) && ascT z xs
  | _ :: _ => false
theorem ascT_iff : ∀ (xs : List Th) (lo : Int), ascT lo xs = true ↔ ∃ ns, xs = ns.map intT ∧ AscInts lo ns
  | [], lo => ⟨fun _ => ⟨[], rfl, trivial⟩, fun _ => rfl⟩
  | x :: xs, lo => by
    cases x with
    | int z =>
      show (decide (lo < z) && ascT z xs) = true ↔ _
      rw [Bool.and_eq_true, decide_eq_true_iff, ascT_iff xs z]
      constructor
      · rintro ⟨h1, ns, rfl, h2⟩
        exact ⟨z :: ns, rfl, h1, h2⟩
      · rintro ⟨ns, e, h⟩
        cases ns with
        | nil => cases e
        | cons n ns =>
          injection e with e1 e2
          cases e1
          exact ⟨h.1, ns, e2, h.2⟩
    | _ =>
      constructor
      · intro h; cases h
      · rintro ⟨ns, e, h⟩
        cases ns with
        | nil => cases e
        | cons n ns => injection e with e1 e2; cases e1
def spAreAscending (K : PySem.W.Frag) : Sp := fun vs H Q _ => ∃ (v : V) (ds : List Th), vs = [v] ∧ Td K H v (.tup ds) ∧ Q (.bl (ascT (-1) ds)) H
theorem scAreAscending : FnScope ["numbers", "before", "number"] ["numbers"] (defScope sAreAscending) := ⟨rfl, rfl, rfl, by decide +kernel, rfl, by decide +kernel, by decide +kernel⟩
/-! ### rows that may stand -/
abbrev Frow := List (Int × Int)
def rowOf? (ns : List Int) (place : Int) (eo : Option Int) : Th → Option (Option Frow)
  | .non => match eo with
    | none => none
    | some e => if e ≤ place then some none else none
  | d => match d.frow? ns.length with
    | some ps => if ((List.zip ns ps).all fun x => decide (x.1 ≤ place) || decide (x.2 = (0, 1))) = true then some (some ps) else none
    | none => none
def EndAt (v : V) (eo : Option Int) : Prop := v = (match eo with | none => V.non | some e => V.int e)
def spIsRowFor (K : PySem.W.Frag) : Sp := fun vs H Q _ => ∃ (v w : V) (a : Addr) (d : Th) (ns : List Int) (place : Int) (eo : Option Int), vs = [v, .ref a, .int place, w] ∧ Td K H v d ∧ d.fits ∧ SqT K H a (ns.map V.int) ∧ ns.length ≤ 900 ∧ EndAt w eo ∧ ∀ H', Same H H' → Q (.bl (rowOf? ns place eo d).isSome) H'
theorem scIsRowFor : FnScope ["row", "numbers", "place", "end", "number", "pair"] ["row", "numbers", "place", "end"] (defScope sIsRowFor) := ⟨rfl, rfl, rfl, by decide +kernel, rfl, by decide +kernel, by decide +kernel⟩
/-- a written tuple of two ints -/
def KPair (K : PySem.W.Frag) (z : Addr) (a b : Int) : Prop := ∀ H, SqT K H z [.int a, .int b]
theorem shaped_row (r : List Int) : SeqAt.shaped (rowD r) = true := by
  unfold SeqAt.shaped
  rw [lay_row, depth_row]; rfl
section
variable {P : Program} {w : World} {K : PySem.W.Frag} {mg : Str → Option Value} {base : Heap}
theorem ok_areAscending {f fW : Addr} {fd fdW : FuncData} (F : Fun K "are_ascending" "are_ascending" sAreAscending f fd) (FW : Fn' P w K mg base 1 "is_whole" fW fdW ["value"] (spIsWhole K)) :
    FnOk P w K mg base CX0 2 f fd ["numbers"] (spAreAscending K) := by
  refine F.ok scAreAscending (fun vs H Q E h => ?_) (fun cdv A outer s H vs Q E hr h => ?_)
  · obtain ⟨v, ds, rfl, _⟩ := h
    rfl
  · obtain ⟨v, ds, rfl, hd, k⟩ := h
    obtain ⟨a, xs, rfl, ha, hx⟩ := td_tup hd
    have nd := scAreAscending.nd
    refine ⟨_, pss_cons (ps_set (i := 1) nd rfl (Or.inl rfl) (pe_un un_neg pe_int))
      (pss_cons (ps_for PassesOwn.never rfl (pi_tup (pv 0)) (pg_name (i := 2) nd rfl (Or.inl rfl))
        (pss_cons (ps_if (PW.pt (pw_or (pt_not (pt_val (pe_call FW.ok hr (by rfl) FW.m FW.k FW.b .nil pass0 (pa_cons (pv 2) pa_nil)))) (pw_or1 (pt_cmpR op_le (pv 2) (pv 1) (nomark _))))) (pss_one (ps_ret pe_bl)) pss_nil)
        (pss_one (ps_set (i := 1) nd rfl (Or.inl rfl) (pv 2)))))
      (pss_one (ps_ret pe_bl))), ?_⟩
    refine ⟨_, rfl, _, rfl, a, rfl, ⟨_, ha⟩, ?_⟩
    refine for_it (walk_tup (xs := xs)) (fun i σ Hc => Hc = H ∧ ∃ (lo : Int) (y : Option V), σ = [some (.ref a), some (.int lo), y] ∧ ascT (-1) ds = ascT lo (ds.drop i)) ⟨rfl, -1, none, rfl, by simp⟩ (fun i σ Hc _ h => by rw [h.1]; exact ha) ?_ ?_
    · rintro i x σ H0 Hc hi ⟨rfl, lo, y, rfl, he⟩ ⟨rfl, hx'⟩
      obtain ⟨d, hd1, hd2⟩ := tdAll_get hx hx'
      have hil := (List.getElem?_eq_some_iff.1 hd1).1
      have edr : ds.drop i = d :: ds.drop (i + 1) := by
        rw [List.drop_eq_getElem_cons hil]
        congr 1
        exact (List.getElem?_eq_some_iff.1 hd1).2
      rw [edr] at he
      refine ⟨_, rfl, x, d, rfl, hd2, _, rfl, ?_⟩
      by_cases h1 : d.isInt = true
      case neg =>
        rw [Bool.not_eq_true] at h1
        refine iteT' (by rw [h1]; rfl) ?_
        have e : ascT (-1) ds = false := by rw [he]; cases d <;> first | rfl | cases h1
        rw [e] at k; exact k
      refine iteF' (by rw [h1]; rfl) ?_
      obtain ⟨z, rfl⟩ : ∃ z, d = .int z := by cases d <;> first | exact ⟨_, rfl⟩ | cases h1
      obtain rfl := td_int hd2
      replace he : ascT (-1) ds = (decide (lo < z) && ascT z (ds.drop (i + 1))) := he
      refine ⟨_, rfl, _, rfl, _, _, rfl, rfl, _, rfl, ?_⟩
      by_cases h2 : z ≤ lo
      · refine iteT' (by rw [decide_eq_true h2]) ?_
        have e : ascT (-1) ds = false := by rw [he, decide_eq_false (by omega)]; rfl
        rw [e] at k; exact k
      · refine iteF' (by rw [decide_eq_false h2]) ?_
        refine ⟨_, rfl, rfl, z, some (.int z), rfl, ?_⟩
        rw [he, decide_eq_true (by omega)]; rfl
    · rintro σ Hc ⟨rfl, lo, y, rfl, he⟩
      rw [List.drop_eq_nil_of_le (by rw [tdAll_len hx]; exact Nat.le_refl _)] at he
      rw [he] at k
      exact k
theorem ok_isRowFor {f fF zA : Addr} {fd fdF : FuncData} (F : Fun K "is_row_for" "is_row_for" sIsRowFor f fd) (B : BN mg) (hZ : mg "ZERO" = some (.ref zA)) (KZ : KPair K zA 0 1)
    (FF : Fn' P w K mg base 3 "is_fraction_row" fF fdF ["value", "many"] (spIsFractionRow K)) : FnOk P w K mg base CX0 4 f fd ["row", "numbers", "place", "end"] (spIsRowFor K) := by
  refine F.ok scIsRowFor (fun vs H Q E h => ?_) (fun cdv A outer s H vs Q E hr h => ?_)
  · obtain ⟨v, w, a, d, ns, place, eo, rfl, _⟩ := h
    rfl
  · obtain ⟨v, w, a, d, ns, place, eo, rfl, hd, hf, ha, hnl, he, k⟩ := h
    have nd := scIsRowFor.nd
    have hu64 := hr.units
    refine ⟨_, pss_cons (ps_if (pt_cmpR op_isN (pv 0) pe_non (by rfl)) (pss_one (ps_ret (pe_and (pe_cmpR op_notN (pv 3) pe_non (by rfl)) (pe_one (pe_cmpR op_ge (pv 2) (pv 3) (nomark _)))))) pss_nil)
      (pss_cons (ps_if (pt_not (pt_val (pe_call FF.ok (by exact hr) (by rfl) FF.m FF.k FF.b .nil pass0 (pa_cons (pv 0) (pa_cons (pe_callB call_len (by rfl) B.len boot_len (pa_cons (pv 1) pa_nil)) pa_nil))))) (pss_one (ps_ret pe_bl)) pss_nil)
      (pss_one (ps_ret (pe_callB (cr_all rfl) (by rfl) B.all (by decide +kernel) (pa_cons (pe_lc (own := [("number", 4), ("pair", 5)]) (g := gTup K 2 (gCons (gName 4) (gCons (gName 5) gNil))) (tt := tYes) rfl nd (pi_zipK true true (by rfl) B.zip (pa_cons (pv 1) (pa_cons (pv 0) pa_nil))) (blkOk_by (own := [("number", 4), ("pair", 5)]) (N := ["row", "numbers", "place", "end", "number", "pair"]) (sc := defScope sIsRowFor) (by decide +kernel))
          (fun _ _ _ _ _ => pg_tup rfl (pgs_cons (pg_name (i := 4) nd rfl (Or.inl rfl) (Or.inr rfl)) (pgs_cons (pg_name (i := 5) nd rfl (Or.inl rfl) (Or.inr rfl)) pgs_nil rfl) rfl) rfl rfl) (fun _ _ _ _ _ => pts_nil)
          (fun _ _ _ _ _ => pe_or (pe_cmpR op_le (pv 4) (pv 2) (nomark _)) (pe_one (pe_cmpR (show OpR _ (compareOp .Eq) (rEqD K) from op_eqD (by exact hu64)) (pv 5) (pe_glob (v := .ref zA) (by rfl) hZ rfl) (by rfl))))) pa_nil))))), ?_⟩
    refine ⟨_, rfl, rfl, _, rfl, ?_⟩
    by_cases h0 : d = .non
    · subst h0
      obtain rfl := td_non hd
      refine iteT' (by simp) ?_
      unfold EndAt at he
      cases eo with
      | none =>
        subst he
        refine ⟨_, rfl, rfl, _, rfl, iteF' (by simp) ?_⟩
        have := k H (Same.refl H)
        exact this
      | some e =>
        subst he
        refine ⟨_, rfl, rfl, _, rfl, iteT' (by simp) ⟨_, rfl, _, rfl, _, _, rfl, rfl, ?_⟩⟩
        have := k H (Same.refl H)
        have e2 : (rowOf? ns place (some e) .non).isSome = decide (e ≤ place) := by
          show (if e ≤ place then some (none : Option Frow) else none).isSome = _
          by_cases h : e ≤ place
          · rw [if_pos h, decide_eq_true h]; rfl
          · rw [if_neg h, decide_eq_false h]; rfl
        rw [e2] at this
        exact this
    · have hv : v ≠ .non := by
        intro e
        rw [e] at hd
        cases hd with
        | non => exact h0 rfl
        | oth h => cases h
      refine iteF' (by simpa using hv) ?_
      refine ⟨_, rfl, _, rfl, _, _, rfl, .inr ⟨_, ha, rfl⟩, v, d, _, rfl, hd, hf, fun H1 s1 => ⟨_, rfl, ?_⟩⟩
      rw [List.length_map]
      have ek : rowOf? ns place eo d = match d.frow? ns.length with
          | some ps => if ((List.zip ns ps).all fun x => decide (x.1 ≤ place) || decide (x.2 = (0, 1))) = true then some (some ps) else none
          | none => none := by
        cases d <;> first | rfl | exact absurd rfl h0
      cases e1 : d.frow? ns.length with
      | none =>
        refine iteT' (by simp [e1]) ?_
        have := k H1 s1
        rw [ek, e1] at this
        exact this
      | some ps =>
        refine iteF' (by simp [e1]) ?_
        rw [e1] at ek
        obtain ⟨rfl, hok, hpl⟩ := frow?_some e1
        have hdp := dp_prow hd
        obtain ⟨b, ys, rfl, hb, hy⟩ := dp_tup hdp
        have hyl : ys.length = ps.length := by rw [dpAll_len hy, List.length_map]
        have hpl' : ps.length = ns.length := by omega
        have ha1 := same_tup s1 ha
        have hb1 := same_tup s1 hb
        refine ⟨_, rfl, _, rfl, a, b, _, _, rfl, ha1, hb1, fun D nD => ?_⟩
        refine lc_out (walk_zipK (t := true) (u := true) (n := ns.length) (by rw [List.length_map, hyl, hpl']; simp)) (fun i Hc => Grow H1 D ((((List.zip ns ps).take i).map fun x => decide (x.1 ≤ place) || decide (x.2 = (0, 1))).map V.bl) Hc) (Grow.start nD) (fun i Hc _ g => ⟨same_tup g.s ha1, same_tup g.s hb1⟩) ?_ ?_
        · rintro i x Hc0 Hc hi g ⟨T, u1, u2, rfl, hT, rfl, q1, q2⟩
          replace q1 : (ns.map V.int)[i]? = some u1 := q1
          replace q2 : ys[i]? = some u2 := q2
          rw [List.getElem?_map, List.getElem?_eq_getElem hi] at q1
          cases q1
          obtain ⟨dd, hd1, hd2⟩ := dpAll_get' hy q2
          rw [List.getElem?_map] at hd1
          have hip : i < ps.length := by omega
          have ep : ps[i]? = some ps[i] := List.getElem?_eq_getElem hip
          rw [ep] at hd1
          cases hd1
          have sT := same_new (o := .tup [V.int ns[i], u2]) hT
          have g2 := g.same sT
          have ez : (List.zip ns ps)[i]? = some (ns[i], ps[i]) := by rw [List.getElem?_zip_eq_some]; exact ⟨List.getElem?_eq_getElem hi, ep⟩
          refine ⟨T, _, rfl, SqT.of upd_same, rfl, _, _, rfl, _, _, rfl, rfl, rfl, ?_⟩
          refine ⟨_, rfl, _, rfl, _, _, rfl, rfl, _, rfl, ?_⟩
          have fin := g2.step nD (V.bl (decide (ns[i] ≤ place) || decide (ps[i] = (0, 1))))
          have tk := map_bl_snoc (fun x : Int × (Int × Int) => decide (x.1 ≤ place) || decide (x.2 = (0, 1))) (List.zip ns ps) i (ns[i], ps[i]) ez
          dsimp only at tk
          have hsz : ((((List.zip ns ps).take i).map fun x => decide (x.1 ≤ place) || decide (x.2 = (0, 1))).map V.bl).length < sizeLine := by
            rw [List.length_map, List.length_map, List.length_take]; exact small1000 (by omega)
          by_cases hle : ns[i] ≤ place
          · refine iteT' (by rw [decide_eq_true hle]) ⟨_, g2.d, hsz, ?_⟩
            rw [tk]
            rw [decide_eq_true hle] at fin ⊢
            exact fin
          · refine iteF' (by rw [decide_eq_false hle]) ?_
            refine ⟨_, rfl, _, _, dp_same (g.s.trans sT) (dp_same s1 hd2), row_dp (r := [0, 1]) (KZ _), shaped_row [ps[i].1, ps[i].2], shaped_row [0, 1], _, g2.d, hsz, ?_⟩
            have e : PyData.eqv (pairD ps[i]) (rowD [0, 1]) = decide (ps[i] = (0, 1)) := by
              have := eqv_row [ps[i].1, ps[i].2] [0, 1]
              rw [show pairD ps[i] = rowD [ps[i].1, ps[i].2] from rfl, this]
              refine decide_eq_decide.2 ⟨fun h => ?_, fun h => by rw [h]⟩
              injection h with h1 h2
              injection h2 with h2 h3
              exact Prod.ext h1 h2
            rw [e]
            rw [tk]
            rw [decide_eq_false hle, Bool.false_or] at fin ⊢
            exact fin
        · intro Hc g
          have hzl : (List.zip ns ps).length = ns.length := by simp [hpl']
          rw [List.take_of_length_le (by omega)] at g
          refine ⟨D, _, rfl, SqL.of g.d, ?_⟩
          have e : (rowOf? ns place eo (prowT ps)).isSome = (((List.zip ns ps).map fun x => decide (x.1 ≤ place) || decide (x.2 = (0, 1))).all id) := by
            rw [ek, List.all_map]
            show (if ((List.zip ns ps).all fun x => decide (x.1 ≤ place) || decide (x.2 = (0, 1))) = true then some (some ps) else none).isSome = (List.zip ns ps).all fun x => decide (x.1 ≤ place) || decide (x.2 = (0, 1))
            cases (List.zip ns ps).all fun x => decide (x.1 ≤ place) || decide (x.2 = (0, 1)) <;> rfl
          rw [← e]
          exact k _ (s1.trans g.s)
end
end L2.EH
end S_T10
section S_L10
set_option exponentiation.threshold 20000
set_option maxRecDepth 100000
set_option maxHeartbeats 4000000
namespace L2.EH
open PySem PySem.Spec PyProof.Rows StX
open L2.Elim (at0 thin gcdRow clr1 cleared comb KO aimRow factorsOf frac zeroTo keptRow headOf keptWith)
theorem ints_dp {K : PySem.W.Frag} {H : Hp} : ∀ r : List Int, DpAll K H (r.map V.int) (r.map .int)
  | [] => .nil
  | x :: r => .cons (.int x) (ints_dp r)
theorem eqv_list (a b : List Int) : PyData.eqv (.list (a.map .int)) (.list (b.map .int)) = decide (a = b) := by
  simp only [PyData.eqv]
  exact eqv_ints a b
theorem shaped_ints (a : List Int) : SeqAt.shaped (.list (a.map .int)) = true := by
  have h := shaped_row a
  unfold SeqAt.shaped at h ⊢
  have e1 : PyData.canLay0 (.list (a.map .int)) = (rowD a).canLay0 := by simp [rowD, PyData.canLay0]
  have e2 : PyData.depth (.list (a.map .int)) = (rowD a).depth := by simp [rowD, PyData.depth]
  rw [e1, e2]; exact h
def optD : Option (List (Int × Int)) → PyData
  | none => .none
  | some ps => prowD ps
theorem optD_tup (o : Option (List (Int × Int))) : tupOnly (optD o) = true := by
  cases o with
  | none => rfl
  | some ps => exact prowD_tup ps
theorem zero_take {W : Nat} {r : List Int} (h : W ≤ r.length) : r.take W = List.replicate W 0 ↔ zeroTo W r := by
  constructor
  · intro e j hj
    have h1 : (r.take W)[j]? = some 0 := by rw [e, List.getElem?_replicate, if_pos hj]
    rw [List.getElem?_take, if_pos hj, List.getElem?_eq_getElem (by omega)] at h1
    rw [L2.Elim.at0_lt (by omega)]
    exact Option.some.inj h1
  · intro e
    apply List.ext_getElem?
    intro j
    by_cases hj : j < W
    · rw [List.getElem?_take, if_pos hj, List.getElem?_replicate, if_pos hj, List.getElem?_eq_getElem (by omega)]
      have := e j hj
      rw [L2.Elim.at0_lt (by omega)] at this
      rw [this]
    · rw [List.getElem?_take, if_neg hj, List.getElem?_replicate, if_neg hj]
theorem flat_rep (W : Nat) (v : V) : (List.replicate W [v]).flatten = List.replicate W v := by
  induction W with
  | zero => rfl
  | succ n ih => rw [List.replicate_succ, List.flatten_cons, ih, List.replicate_succ]; rfl
def KPre (K : PySem.W.Frag) (H : Hp) (k : Addr) (ks : Kept2) (W R : Nat) (us : List (List Int)) : Prop := KeptAt K H k ks ∧ KO W R us ks ∧ us.length ≤ W ∧ W ≤ 400 ∧ 0 < R ∧ 2 ^ ks.length * (R + 1) ≤ 9000
def spFactors (K : PySem.W.Frag) : Sp := fun vs H Q _ => ∃ (k a : Addr) (ks : Kept2) (W R : Nat) (us : List (List Int)) (aim : List Int), vs = [.ref k, .ref a] ∧ KPre K H k ks W R us ∧ SqL K H a (aim.map V.int) ∧ aim.length = W ∧ (∀ z, z ∈ aim → z.natAbs < 2 ^ R) ∧
  ∀ H' v, Same H H' → Dp K H' v (optD (factorsOf W ks aim)) → Q v H'
theorem scFactors : FnScope ["_law_kept_here", "_law_aim", "_law_wide", "_law_row_here", "_law_j"] ["_law_kept_here", "_law_aim"] (defScope sFactors) := ⟨rfl, rfl, rfl, by decide +kernel, rfl, by decide +kernel, by decide +kernel⟩
section
variable {P : Program} {w : World} {K : PySem.W.Frag} {mg : Str → Option Value} {base : Heap}
theorem ok_factors {f fC fF : Addr} {fd fdC fdF : FuncData} (F : Fun K "_law_factors" "_law_factors" sFactors f fd) (B : BN mg) (FC : Fn' P w K mg base 3 "_law_cleared" fC fdC ["_law_row_here", "_law_kept_here"] (spCleared K))
    (FF : Fn' P w K mg base 2 "_law_fraction" fF fdF ["_law_top", "_law_bottom"] spFraction) :
    FnOk P w K mg base CX0 4 f fd ["_law_kept_here", "_law_aim"] (spFactors K) := by
  refine F.ok scFactors (fun vs H Q E h => ?_) (fun cdv A outer s H vs Q E hr h => ?_)
  · obtain ⟨k, a, ks, W, R, us, aim, rfl, _⟩ := h
    rfl
  · obtain ⟨k, a, ks, W, R, us, aim, rfl, ⟨hK, hKO, hW, hW4, hR, hbits⟩, ha, hal, hab, kk⟩ := h
    obtain ⟨xs, hk1, hk2, hk3⟩ := id hK
    have hu64 := hr.units
    have nd := scFactors.nd
    refine ⟨_, pss_cons (ps_set (i := 2) nd rfl (Or.inr rfl) (pe_callB call_len (by rfl) B.len boot_len (pa_cons (pv 1) pa_nil)))
      (pss_cons (ps_set (i := 3) nd rfl (Or.inr rfl) (pe_call FC.ok (by exact hr) (by rfl) FC.m FC.k FC.b .nil pass0 (pa_cons (pe_op op_cat (pe_op op_cat (pe_callTy call_list_of (by rfl) B.list (by decide +kernel) (pa_cons (pv 1) pa_nil)) (pe_op op_rep (pe_lst (pa_cons pe_int pa_nil)) (pv 2))) (pe_lst (pa_cons pe_int pa_nil))) (pa_cons (pv 0) pa_nil))))
      (pss_cons (ps_if (pt_cmpR (show OpR _ (compareOp .NotEq) (rNeD K) from op_neD (by exact hu64)) (pe_slice (show SlR _ (rSlL K) from sl_list) (pv 3) po_none (po_some (pv 2))) (pe_op op_rep (pe_lst (pa_cons pe_int pa_nil)) (pv 2)) (by rfl)) (pss_one (ps_ret pe_non)) pss_nil)
      (pss_one (ps_ret (pe_callTy call_tuple_of (by rfl) B.tuple (by decide +kernel) (pa_cons (pe_lc (own := [("_law_j", 4)]) (g := gName 4) (tt := tYes) rfl nd (pi_range1 (by rfl) B.range (pa_cons (pe_callB call_len (by rfl) B.len boot_len (pa_cons (pv 0) pa_nil)) pa_nil)) (blkOk_by (own := [("_law_j", 4)]) (N := ["_law_kept_here", "_law_aim", "_law_wide", "_law_row_here", "_law_j"]) (sc := defScope sFactors) (by decide +kernel))
        (fun _ _ _ _ _ => pg_name (i := 4) nd rfl (Or.inl rfl) (Or.inr rfl)) (fun _ _ _ _ _ => pts_nil)
        (fun _ _ _ _ _ => pe_call FF.ok (by exact hr.mono (by decide)) (by rfl) FF.m FF.k FF.b .nil pass0 (pa_cons (pe_un un_neg (pe_ix (ix_seqK (K := K) rfl) (pv 3) (pe_op op_add (pv 2) (pv 4)) (fun _ _ => rfl))) (pa_cons (pe_ix (ix_seqK (K := K) rfl) (pv 3) (pe_op op_mul pe_int (pv 2)) (fun _ _ => rfl)) pa_nil)))) pa_nil)))))), ?_⟩
    have hkl := hKO.len
    have hks : ks.length ≤ 400 := by omega
    have sz : ∀ {n : Nat}, n ≤ 1000 → n ≤ sizeLine := fun h => Nat.le_of_lt (small1000 h)
    refine ⟨_, rfl, _, _, rfl, .inl ⟨_, ha, rfl⟩, ?_⟩
    rw [List.length_map, hal]
    refine ⟨_, rfl, a, _, rfl, .inl ha, fun l1 n1 => ?_⟩
    have s1 := same_new (o := .lst (aim.map V.int)) n1
    have g1 : (upd H l1 (.lst (aim.map V.int))) l1 = some (.lst (aim.map V.int)) := upd_same
    generalize upd H l1 (.lst (aim.map V.int)) = H1 at *
    refine ⟨by show 1 ≤ sizeLine; decide, fun l2 n2 => ⟨_, rfl, ?_⟩⟩
    have s2 := same_new (o := .lst [.int 0]) n2
    have g2 : (upd H1 l2 (.lst [.int 0])) l2 = some (.lst [.int 0]) := upd_same
    generalize upd H1 l2 (.lst [.int 0]) = H2 at *
    refine ⟨l2, _, _, rfl, rfl, g2, by omega, by omega, sz (by show 1 * W ≤ 1000; omega), fun l3 n3 => ?_⟩
    have s3 := same_new (o := .lst (List.replicate ((W : Int)).toNat [V.int 0]).flatten) n3
    have g3 : (upd H2 l3 (.lst (List.replicate ((W : Int)).toNat [V.int 0]).flatten)) l3 = some (.lst (List.replicate W (V.int 0))) := by rw [upd_same, flat_rep]; rfl
    generalize (upd H2 l3 (.lst (List.replicate ((W : Int)).toNat [V.int 0]).flatten)) = H3 at *
    refine ⟨l1, l3, _, _, rfl, rfl, (s2.trans s3) _ _ g1, g3, sz (by rw [List.length_map, List.length_replicate]; omega), fun l4 n4 => ?_⟩
    have s4 := same_new (o := .lst (aim.map V.int ++ List.replicate W (V.int 0))) n4
    have g4 : (upd H3 l4 (.lst (aim.map V.int ++ List.replicate W (V.int 0)))) l4 = some (.lst (aim.map V.int ++ List.replicate W (V.int 0))) := upd_same
    generalize (upd H3 l4 (.lst (aim.map V.int ++ List.replicate W (V.int 0)))) = H4 at *
    refine ⟨by show 1 ≤ sizeLine; decide, fun l5 n5 => ?_⟩
    have s5 := same_new (o := .lst [.int 1]) n5
    have g5 : (upd H4 l5 (.lst [.int 1])) l5 = some (.lst [.int 1]) := upd_same
    generalize (upd H4 l5 (.lst [.int 1])) = H5 at *
    refine ⟨l4, l5, _, _, rfl, rfl, s5 _ _ g4, g5, sz (by rw [List.length_append, List.length_map, List.length_replicate]; show aim.length + W + 1 ≤ 1000; omega), fun l6 n6 => ?_⟩
    have s6 := same_new (o := .lst (aim.map V.int ++ List.replicate W (V.int 0) ++ [V.int 1])) n6
    have g6 : (upd H5 l6 (.lst (aim.map V.int ++ List.replicate W (V.int 0) ++ [V.int 1]))) l6 = some (.lst ((aimRow W aim).map V.int)) := by rw [upd_same]; simp [aimRow]
    generalize (upd H5 l6 (.lst (aim.map V.int ++ List.replicate W (V.int 0) ++ [V.int 1]))) = H6 at *
    have s06 := s1.trans (s2.trans (s3.trans (s4.trans (s5.trans s6))))
    have hlr := L2.Elim.aimRow_len hal
    refine ⟨_, rfl, l6, k, aimRow W aim, ks, W, R, us, rfl, SqL.of g6, hK.same s06, hKO, hW, hlr, hW4, fun z hz => ?_, hbits, fun H7 q s7 hq hqr => ?_⟩
    · unfold aimRow at hz
      have p1 : 2 ≤ 2 ^ R := by
        have := Nat.pow_le_pow_right (n := 2) (by decide) hR
        omega
      rcases List.mem_append.1 hz with hz | hz
      · rcases List.mem_append.1 hz with hz | hz
        · exact hab z hz
        · rw [(List.mem_replicate.1 hz).2]; simp; omega
      · rw [List.mem_singleton.1 hz]; simp; omega
    · obtain ⟨c1, c2, c3⟩ := hKO.clear hW hlr
      have cs := hKO.small hW hlr (R := R) (r := aimRow W aim) (fun z hz => by
        unfold aimRow at hz
        have p1 : 2 ≤ 2 ^ R := by
          have := Nat.pow_le_pow_right (n := 2) (by decide) hR
          omega
        rcases List.mem_append.1 hz with hz | hz
        · rcases List.mem_append.1 hz with hz | hz
          · exact hab z hz
          · rw [(List.mem_replicate.1 hz).2]; simp; omega
        · rw [List.mem_singleton.1 hz]; simp; omega)
      have cl := hKO.cl hW hal
      have ef : factorsOf W ks aim = if zeroTo W (cleared (aimRow W aim) ks) then some ((List.range ks.length).map fun j => frac (-(at0 (cleared (aimRow W aim) ks) (W + j))) (at0 (cleared (aimRow W aim) ks) (2 * W))) else none := rfl
      rw [ef] at kk
      generalize hcl : cleared (aimRow W aim) ks = rr at *
      have s07 := s06.trans s7
      refine ⟨_, rfl, _, rfl, _, rfl, q, _, rfl, hqr, fun p8 n8 => ?_⟩
      have s8 := same_new (o := .lst (cutV (rr.map V.int) none (some (W : Int)))) n8
      have g8 : (upd H7 p8 (.lst (cutV (rr.map V.int) none (some (W : Int))))) p8 = some (.lst ((rr.take W).map V.int)) := by rw [upd_same, cut_take, List.map_take]
      generalize (upd H7 p8 (.lst (cutV (rr.map V.int) none (some (W : Int))))) = H8 at *
      refine ⟨by show 1 ≤ sizeLine; decide, fun p9 n9 => ⟨_, rfl, ?_⟩⟩
      have s9 := same_new (o := .lst [.int 0]) n9
      have g9 : (upd H8 p9 (.lst [.int 0])) p9 = some (.lst [.int 0]) := upd_same
      generalize upd H8 p9 (.lst [.int 0]) = H9 at *
      refine ⟨p9, _, _, rfl, rfl, g9, by omega, by omega, sz (by show 1 * W ≤ 1000; omega), fun pa na => ?_⟩
      have sa := same_new (o := .lst (List.replicate ((W : Int)).toNat [V.int 0]).flatten) na
      have ga : (upd H9 pa (.lst (List.replicate ((W : Int)).toNat [V.int 0]).flatten)) pa = some (.lst ((List.replicate W (0 : Int)).map V.int)) := by rw [upd_same, flat_rep, List.map_replicate]; rfl
      generalize (upd H9 pa (.lst (List.replicate ((W : Int)).toNat [V.int 0]).flatten)) = Ha at *
      have s7a := s8.trans (s9.trans sa)
      refine ⟨_, _, .lst (SqL.of ((s9.trans sa) _ _ g8)) (ints_dp _), .lst (SqL.of ga) (ints_dp _), shaped_ints _, shaped_ints _, ?_⟩
      rw [eqv_list]
      by_cases hz : zeroTo W rr
      · rw [if_pos hz] at kk
        rw [decide_eq_true ((zero_take (by omega)).2 hz)]
        have s0a := s07.trans s7a
        refine ⟨_, rfl, iteF' rfl ?_⟩
        refine ⟨_, rfl, _, _, rfl, .inl ⟨_, s0a.seq hk1, rfl⟩, _, rfl, by omega, by rw [List.length_map]; omega, fun D nD => ?_⟩
        have en : (((xs.map V.ref).length : Nat) : Int).toNat = ks.length := by rw [List.length_map]; omega
        rw [en]
        have hq2 := s7a.seq hqr
        refine lc_out walk_range (fun j Hd => GrowD K Ha D ((((List.range ks.length).map fun j => frac (-(at0 rr (W + j))) (at0 rr (2 * W))).take j).map pairD) Hd) (GrowD.start nD) (fun _ _ _ _ => trivial) ?_ ?_
        · rintro j y H00 Hd hj ⟨acc, g, da⟩ ⟨rfl, rfl⟩
          have eI : ((0 : Int) + (j : Nat)) = (j : Int) := by omega
          show gName 4 (V.int (0 + (j : Nat))) _ _ _
          rw [eI]
          have e1 : atI (rr.map V.int) ((W : Int) + (j : Int)) = some (V.int (at0 rr (W + j))) := by
            rw [← Int.natCast_add]
            exact atI_nat (by rw [List.getElem?_map, List.getElem?_eq_getElem (by omega), L2.Elim.at0_lt (by omega)]; rfl)
          have e2 : atI (rr.map V.int) (2 * (W : Int)) = some (V.int (at0 rr (2 * W))) := by
            rw [show (2 * (W : Int)) = ((2 * W : Nat) : Int) by omega]
            exact atI_nat (by rw [List.getElem?_map, List.getElem?_eq_getElem (by omega), L2.Elim.at0_lt (by omega)]; rfl)
          have small : (at0 rr (2 * W)).natAbs < 2 ^ 9000 := by
            rw [L2.Elim.at0_lt (by omega)]
            exact Nat.lt_of_lt_of_le (cs _ (List.getElem_mem _)) (Nat.pow_le_pow_right (by decide) (by omega))
          refine ⟨rfl, _, rfl, _, rfl, _, rfl, _, _, rfl, rfl, SqK.ix (t := false) (g.s.seq hq2) e1 ⟨_, rfl, _, rfl, _, rfl, _, _, rfl, rfl, .inl ⟨by decide, by decide⟩, SqK.ix (t := false) (g.s.seq hq2) e2 ⟨_, _, rfl, cl.t, small, fun tt nt => ?_⟩⟩⟩
          have ge : ((List.range ks.length).map fun j => frac (-(at0 rr (W + j))) (at0 rr (2 * W)))[j]? = some (frac (-(at0 rr (W + j))) (at0 rr (2 * W))) := by
            rw [List.getElem?_map, List.getElem?_range hj]; rfl
          refine GrowD.step nD ⟨acc, g, da⟩ (same_new nt) (d := pairD (frac (-(at0 rr (W + j))) (at0 rr (2 * W)))) (pair_dp (SqT.of upd_same)) rfl (pairs_tup _) (by simp; omega) fun Hn gn => ?_
          rw [take_snoc' _ j _ ge, List.map_append]
          exact gn
        · rintro Hd ⟨acc, g, da⟩
          rw [List.take_of_length_le (by simp)] at da
          refine ⟨D, _, rfl, .inl ⟨SqL.of g.d, fun p np => ?_⟩⟩
          exact kk _ _ ((s0a.trans g.s).trans (same_new np)) (.tup (SqT.of upd_same) (dpAll_same (same_new np) da))
      · rw [if_neg hz] at kk
        rw [decide_eq_false fun q => hz ((zero_take (by omega)).1 q)]
        exact ⟨_, rfl, iteT' rfl (kk _ _ (s07.trans s7a) .non)⟩
end
end L2.EH
end S_L10
section S_L11
set_option exponentiation.threshold 20000
set_option maxRecDepth 100000
set_option maxHeartbeats 4000000
namespace L2.EH
open PySem PySem.Spec PyProof.Rows StX
open L2.Elim (at0 thin gcdRow clr1 cleared comb KO aimRow factorsOf frac zeroTo keptRow headOf keptWith)
/-- the kept rows in a list of their own -/
def KeptL (K : PySem.W.Frag) (H : Hp) (k : Addr) (ks : Kept2) : Prop := ∃ xs : List Addr, H k = some (.lst (xs.map V.ref)) ∧ xs.length = ks.length ∧ ∀ (i : Nat) x q, xs[i]? = some x → ks[i]? = some q → ∃ c, SqT K H x [.int (q.1 : Int), .ref c] ∧ SqL K H c (q.2.map V.int)
theorem KeptL.at {K : PySem.W.Frag} {H : Hp} {k : Addr} {ks : Kept2} (h : KeptL K H k ks) : KeptAt K H k ks := by
  obtain ⟨xs, h1, h2, h3⟩ := h
  exact ⟨xs, SqL.of h1, h2, h3⟩
theorem KeptL.same {K : PySem.W.Frag} {H H' : Hp} {k : Addr} {ks : Kept2} (s : Same H H') (h : KeptL K H k ks) : KeptL K H' k ks := by
  obtain ⟨xs, h1, h2, h3⟩ := h
  exact ⟨xs, s _ _ h1, h2, fun i x q e1 e2 => by obtain ⟨c, a, b⟩ := h3 i x q e1 e2; exact ⟨c, same_tup s a, s.seq b⟩⟩
def headsOf (W : Nat) (r : List Int) : List Nat := (List.range W).filter fun j => decide (at0 r j ≠ 0)
theorem headsOf_take (r : List Int) (j : Nat) : (headsOf (j + 1) r) = headsOf j r ++ (if at0 r j ≠ 0 then [j] else []) := by
  unfold headsOf
  rw [List.range_succ, List.filter_append]
  by_cases h : at0 r j ≠ 0
  · rw [if_pos h, List.filter_cons_of_pos (by simpa using h)]; rfl
  · rw [if_neg h, List.filter_cons_of_neg (by simpa using h)]; rfl
theorem headsOf_few (W : Nat) (r : List Int) : (headsOf W r).length ≤ W := by
  have := List.length_filter_le (fun j => decide (at0 r j ≠ 0)) (List.range W)
  rw [List.length_range] at this
  exact this
theorem KO.heads {W R : Nat} {us : List (List Int)} {ks : Kept2} (h : KO W R us ks) (hW : us.length < W) {v : List Int} (hv : v.length = W) (hn : ¬ L2.Halves.Span (· ∈ us.map L2.Elim.vec) (L2.Elim.vec v)) :
    ¬ zeroTo W (cleared (keptRow W ks.length v) ks) := by
  have hl := h.len
  obtain ⟨a1, a2⟩ := L2.Elim.keptRow_at (k := ks.length) hv (by omega)
  have kl := L2.Elim.keptRow_len (k := ks.length) hv
  intro z
  refine hn ((h.zero_iff (by omega) hv).1 fun j hj => ?_)
  obtain ⟨a, b, ha, hb, e⟩ := h.same (by omega) (L2.Elim.aimRow_len hv) kl fun j hj => by rw [(L2.Elim.aimRow_at hv).1 j hj, a1 j hj]
  have := e j hj
  rw [z j hj, Int.mul_zero] at this
  rcases Int.mul_eq_zero.1 this with q | q
  · exact absurd q ha
  · exact q
def spKept (K : PySem.W.Frag) : Sp := fun vs H Q _ => ∃ (k a : Addr) (ks : Kept2) (W R : Nat) (us : List (List Int)) (v : List Int), vs = [.ref k, .ref a] ∧ KeptL K H k ks ∧ KPre K H k ks W R us ∧ us.length < W ∧ SqL K H a (v.map V.int) ∧ v.length = W ∧ (∀ z, z ∈ v → z.natAbs < 2 ^ R) ∧
  ¬ L2.Halves.Span (· ∈ us.map L2.Elim.vec) (L2.Elim.vec v) ∧ ∀ H' p, Same H H' → H p = none → KeptL K H' p (keptWith W ks v) → Q (.ref p) H'
theorem scKept : FnScope ["_law_kept_here", "_law_worths", "_law_wide", "_law_row_here", "_law_heads", "_law_j"] ["_law_kept_here", "_law_worths"] (defScope sKept) := ⟨rfl, rfl, rfl, by decide +kernel, rfl, by decide +kernel, by decide +kernel⟩
section
variable {P : Program} {w : World} {K : PySem.W.Frag} {mg : Str → Option Value} {base : Heap}
theorem ok_kept {f fC : Addr} {fd fdC : FuncData} (F : Fun K "_law_kept" "_law_kept" sKept f fd) (B : BN mg) (FC : Fn' P w K mg base 3 "_law_cleared" fC fdC ["_law_row_here", "_law_kept_here"] (spCleared K)) :
    FnOk P w K mg base CX0 4 f fd ["_law_kept_here", "_law_worths"] (spKept K) := by
  refine F.ok scKept (fun vs H Q E h => ?_) (fun cdv A outer s H vs Q E hr h => ?_)
  · obtain ⟨k, a, ks, W, R, us, v, rfl, _⟩ := h
    rfl
  · obtain ⟨k, a, ks, W, R, us, v, rfl, hKL, ⟨hK, hKO, hW, hW4, hR, hbits⟩, hlt, ha, hvl, hvb, hn, kk⟩ := h
    obtain ⟨xs, hk1, hk2, hk3⟩ := id hKL
    have nd := scKept.nd
    refine ⟨_, pss_cons (ps_set (i := 2) nd rfl (Or.inl rfl) (pe_callB call_len (by rfl) B.len boot_len (pa_cons (pv 1) pa_nil)))
      (pss_cons (ps_set (i := 3) nd rfl (Or.inr rfl) (pe_call FC.ok (by exact hr) (by rfl) FC.m FC.k FC.b .nil pass0 (pa_cons (pe_op op_cat (pe_callTy call_list_of (by rfl) B.list (by decide +kernel) (pa_cons (pv 1) pa_nil)) (pe_lc (own := [("_law_j", 5)]) (g := gName 5) (tt := tYes) rfl nd (pi_range1 (by rfl) B.range (pa_cons (pe_op op_add (pv 2) pe_int) pa_nil)) (blkOk_by (own := [("_law_j", 5)]) (N := ["_law_kept_here", "_law_worths", "_law_wide", "_law_row_here", "_law_heads", "_law_j"]) (sc := defScope sKept) (by decide +kernel))
          (fun _ _ _ _ _ => pg_name (i := 5) nd rfl (Or.inl rfl) (Or.inr rfl)) (fun _ _ _ _ _ => pts_nil)
          (fun _ _ _ _ _ => pe_callTy call_int1 (by rfl) B.int (by decide +kernel) (pa_cons (pe_cmpR op_eq (pv 5) (pe_callB (call_lenK (K := K) rfl) (by rfl) B.len boot_len (pa_cons (pv 0) pa_nil)) (nomark _)) pa_nil)))) (pa_cons (pv 0) pa_nil))))
      (pss_cons (ps_setLc (i := 4) (own := [("_law_j", 5)]) (g := gName 5) (by rfl) nd rfl rfl (sw_true rfl rfl rfl (by decide +kernel)) (pi_range1 (by rfl) B.range (pa_cons (pv 2) pa_nil)) (blkOk_by (own := [("_law_j", 5)]) (N := ["_law_kept_here", "_law_worths", "_law_wide", "_law_row_here", "_law_heads", "_law_j"]) (sc := defScope sKept) (by decide +kernel))
          (fun _ _ _ _ _ => pg_name (i := 5) nd rfl (Or.inl rfl) (Or.inr rfl)) (fun _ _ _ _ _ => pts_one (pt_cmpR op_ne (pe_ix (ix_seqK (K := K) rfl) (pv 3) (pv 5) (fun _ _ => rfl)) pe_int (nomark _)))
          (fun _ _ _ _ _ => pv 5))
      (pss_one (ps_ret (pe_op op_cat (pv 0) (pe_lst (pa_cons (pe_tup (pa_cons (pe_ix ix_list (pv 4) pe_int (fun _ _ => rfl)) (pa_cons (pv 3) pa_nil))) pa_nil))))))), ?_⟩
    have hkl := hKO.len
    have sz : ∀ {n : Nat}, n ≤ 1000 → n ≤ sizeLine := fun h => Nat.le_of_lt (small1000 h)
    refine ⟨_, rfl, _, _, rfl, .inl ⟨_, ha, rfl⟩, ?_⟩
    rw [List.length_map, hvl]
    refine ⟨_, rfl, a, _, rfl, .inl ha, fun l1 n1 => ?_⟩
    have s1 := same_new (o := .lst (v.map V.int)) n1
    have g1 : (upd H l1 (.lst (v.map V.int))) l1 = some (.lst (v.map V.int)) := upd_same
    generalize upd H l1 (.lst (v.map V.int)) = H1 at *
    refine ⟨_, rfl, _, _, rfl, rfl, _, rfl, by omega, by omega, fun D nD => ?_⟩
    have en : ((W : Int) + 1).toNat = W + 1 := by omega
    rw [en]
    have hkr : ∀ j, j < W + 1 → ((List.range (W + 1)).map fun j => if j = ks.length then (1 : Int) else 0)[j]? = some (if j = ks.length then (1 : Int) else 0) := fun j hj => by
      rw [List.getElem?_map, List.getElem?_range hj]; rfl
    have hkrl : ((List.range (W + 1)).map fun j => if j = ks.length then (1 : Int) else 0).length = W + 1 := by simp
    have ekr : keptRow W ks.length v = v ++ (List.range (W + 1)).map fun j => if j = ks.length then (1 : Int) else 0 := rfl
    generalize hkrr : ((List.range (W + 1)).map fun j => if j = ks.length then (1 : Int) else 0) = kr at *
    have hk1' := s1 _ _ hk1
    refine lc_out walk_range (fun j Hd => Grow H1 D ((kr.take j).map V.int) Hd) (Grow.start nD) (fun _ _ _ _ => trivial) ?_ ?_
    · rintro j y H00 Hd hj g ⟨rfl, rfl⟩
      have eI : ((0 : Int) + (j : Nat)) = (j : Int) := by omega
      show gName 5 (V.int (0 + (j : Nat))) _ _ _
      rw [eI]
      refine ⟨rfl, _, rfl, _, rfl, _, _, rfl, .inl ⟨_, SqL.of (g.s _ _ hk1'), rfl⟩, rfl, .inr ⟨_, rfl, _, g.d, small1000 (by rw [List.length_map, List.length_take]; omega), ?_⟩⟩
      have := g.step nD (V.int (if j = ks.length then 1 else 0))
      rw [take_snoc' kr j _ (hkr j hj), List.map_append]
      rw [List.length_map, hk2]
      have ed : decide (V.int (j : Int) = V.int (ks.length : Int)) = decide (j = ks.length) := decide_eq_decide.2 ⟨fun e => by injection e with e; omega, fun e => by rw [e]⟩
      show Grow H1 D _ (upd Hd D (.lst (_ ++ [V.int (if decide (V.int (j : Int) = V.int (ks.length : Int)) = true then 1 else 0)])))
      rw [ed]
      by_cases h : j = ks.length
      · rw [if_pos h] at this ⊢
        rw [if_pos (decide_eq_true h)]; exact this
      · rw [if_neg h] at this ⊢
        rw [if_neg (by simpa using h)]; exact this
    · intro H2 g
      rw [List.take_of_length_le (by omega)] at g
      refine ⟨l1, D, _, _, rfl, rfl, g.s _ _ g1, g.d, sz (by rw [List.length_map, List.length_map]; omega), fun l6 n6 => ?_⟩
      have s6 := same_new (o := .lst (v.map V.int ++ kr.map V.int)) n6
      have g6 : (upd H2 l6 (.lst (v.map V.int ++ kr.map V.int))) l6 = some (.lst ((keptRow W ks.length v).map V.int)) := by rw [upd_same, ekr, List.map_append]
      generalize (upd H2 l6 (.lst (v.map V.int ++ kr.map V.int))) = H6 at *
      have s06 := s1.trans (g.s.trans s6)
      have hlr := L2.Elim.keptRow_len (k := ks.length) hvl
      have p1 : 2 ≤ 2 ^ R := by
        have := Nat.pow_le_pow_right (n := 2) (by decide) hR
        omega
      have krb : ∀ z, z ∈ keptRow W ks.length v → z.natAbs < 2 ^ R := fun z hz => by
        rw [ekr] at hz
        rcases List.mem_append.1 hz with hz | hz
        · exact hvb z hz
        · rw [← hkrr] at hz
          obtain ⟨j, -, rfl⟩ := List.mem_map.1 hz
          split <;> simp <;> omega
      refine ⟨_, rfl, l6, k, keptRow W ks.length v, ks, W, R, us, rfl, SqL.of g6, hK.same s06, hKO, hW, hlr, hW4, krb, hbits, fun H7 q s7 hq hqr => ?_⟩
      obtain ⟨c1, c2, c3⟩ := hKO.clear hW hlr
      have nz := KO.heads hKO hlt hvl hn
      have ekw : keptWith W ks v = ks ++ [(headOf W (cleared (keptRow W ks.length v) ks), cleared (keptRow W ks.length v) ks)] := rfl
      rw [ekw] at kk
      generalize hcl : cleared (keptRow W ks.length v) ks = rr at *
      have s07 := s06.trans s7
      have eh : headOf W rr = (headsOf W rr).headD 0 := rfl
      have hh := L2.Elim.headOf_spec nz
      refine ⟨_, rfl, _, rfl, by omega, by omega, fun D2 nD2 => ?_⟩
      refine lc_out walk_range (fun j Hd => Grow H7 D2 (natsV (headsOf j rr)) Hd) (Grow.start nD2) (fun _ _ _ _ => trivial) ?_ ?_
      · rintro j y H00 Hd hj g2 ⟨rfl, rfl⟩
        have eI : ((0 : Int) + (j : Nat)) = (j : Int) := by omega
        show gName 5 (V.int (0 + (j : Nat))) _ _ _
        rw [eI]
        have hjW : j < W := by omega
        have e1 : atI (rr.map V.int) (j : Int) = some (V.int (at0 rr j)) := atI_nat (by rw [List.getElem?_map, List.getElem?_eq_getElem (by omega), L2.Elim.at0_lt (by omega)]; rfl)
        refine ⟨rfl, _, rfl, _, rfl, SqK.ix (t := false) (g2.s.seq hqr) e1 ⟨rfl, _, rfl, ?_⟩⟩
        have ht := headsOf_take rr j
        by_cases h0 : at0 rr j = 0
        · rw [if_neg (fun q => q h0), List.append_nil] at ht
          refine iteF' (by show (!decide (V.int (at0 rr j) = V.int 0)) = false; rw [h0]; rfl) ?_
          rw [ht]; exact g2
        · rw [if_pos h0] at ht
          refine iteT' (by show (!decide (V.int (at0 rr j) = V.int 0)) = true; rw [decide_eq_false fun e => h0 (by injection e)]; rfl) ?_
          refine ⟨_, rfl, _, g2.d, small1000 (by unfold natsV; rw [List.length_map]; have := headsOf_few j rr; omega), ?_⟩
          have := g2.step nD2 (V.int (j : Int))
          rw [ht]
          unfold natsV at this ⊢
          rw [List.map_append]; exact this
      · intro H8 g2
        have eW : ((W : Int)).toNat = W := by omega
        rw [eW] at g2
        have hd0 : atI (natsV (headsOf W rr)) 0 = some (V.int (headOf W rr : Nat)) := by
          refine atI_nat (j := 0) ?_
          cases e : headsOf W rr with
          | nil =>
            exfalso
            have := List.filter_eq_nil_iff.1 (show (List.range W).filter _ = [] from e) (headOf W rr) (by simpa using hh.1)
            exact this (decide_eq_true hh.2)
          | cons x l => rw [eh, e]; rfl
        have s08 := s07.trans g2.s
        refine ⟨_, rfl, _, rfl, D2, _, 0, _, rfl, rfl, SqL.of g2.d, hd0, _, rfl, by show 2 ≤ sizeLine; decide, fun t nt => ⟨by show 1 ≤ sizeLine; decide, fun b nb => ?_⟩⟩
        have st := same_new (o := .tup [V.int (headOf W rr : Nat), .ref q]) nt
        have gt : (upd H8 t (.tup [V.int (headOf W rr : Nat), .ref q])) t = some (.tup [V.int (headOf W rr : Nat), .ref q]) := upd_same
        generalize (upd H8 t (.tup [V.int (headOf W rr : Nat), .ref q])) = H9 at *
        have sb := same_new (o := .lst [V.ref t]) nb
        have gb : (upd H9 b (.lst [V.ref t])) b = some (.lst [V.ref t]) := upd_same
        generalize (upd H9 b (.lst [V.ref t])) = Ha at *
        have s0a := s08.trans (st.trans sb)
        refine ⟨k, b, _, _, rfl, rfl, s0a _ _ hk1, gb, sz (by rw [List.length_map]; show xs.length + 1 ≤ 1000; omega), fun p np => ?_⟩
        have sp := same_new (o := .lst (xs.map V.ref ++ [V.ref t])) np
        refine kk _ p (s0a.trans sp) (s0a.free np) ⟨xs ++ [t], by rw [upd_same, List.map_append]; rfl, by simp [hk2], fun i x z e1 e2 => ?_⟩
        by_cases hi : i < xs.length
        · rw [List.getElem?_append_left hi] at e1
          rw [List.getElem?_append_left (by omega)] at e2
          obtain ⟨c, d1, d2⟩ := hk3 i x z e1 e2
          exact ⟨c, same_tup (s0a.trans sp) d1, (s0a.trans sp).seq d2⟩
        · have hi2 : i = xs.length := by
            have := (List.getElem?_eq_some_iff.1 e1).1
            simp at this; omega
          subst hi2
          rw [List.getElem?_append_right (Nat.le_refl _), Nat.sub_self] at e1
          rw [List.getElem?_append_right (by omega), hk2, Nat.sub_self] at e2
          cases e1
          cases e2
          exact ⟨q, SqT.of ((sb.trans sp) _ _ gt), (g2.s.trans (st.trans (sb.trans sp))).seq hqr⟩
end
end L2.EH
end S_L11
section S_T11
set_option exponentiation.threshold 20000
set_option maxRecDepth 100000
set_option maxHeartbeats 4000000
namespace L2.EH
open PySem PySem.Spec PyProof.Rows StX
/-! ### certificates of spans, as they are written -/
abbrev Fpair := Option Frow × Option Frow
def pairOf? (ns : List Int) (eo : Option Int) (n : Int) : Th → Option Fpair
  | .tup [x, y] => match rowOf? ns (2 * n) eo x, rowOf? ns (2 * n + 1) eo y with
    | some a, some b => some (a, b)
    | _, _ => none
  | _ => none
def pairsOf? (ns : List Int) (eo : Option Int) : List Int → List Th → Option (List Fpair)
  | n :: l, d :: ds => match pairOf? ns eo n d, pairsOf? ns eo l ds with
    | some a, some b => some (a :: b)
    | _, _ => none
  | [], [] => some []
  | _, _ => none
structure Cert where
  ns : List Int
  rows : List Fpair
def certOf (eo : Option Int) (nT : List Th) (rT : Th) : Option Cert := match ints? nT, rT with
  | some ns, .tup ds => if ascT (-1) nT = true ∧ ds.length = nT.length then (pairsOf? ns eo ns ds).map fun rs => ⟨ns, rs⟩ else none
  | _, _ => none
def Th.cert? (eo : Option Int) : Th → Option Cert
  | .tup [.tup nT, rT] => if nT.length ≤ 200 then certOf eo nT rT else none
  | _ => none
theorem pairsOf?_all (ns : List Int) (eo : Option Int) : ∀ (l : List Int) (ds : List Th), l.length = ds.length → (pairsOf? ns eo l ds).isSome = (List.zip l ds).all fun x => (pairOf? ns eo x.1 x.2).isSome
  | [], [], _ => rfl
  | n :: l, d :: ds, h => by
    have ih := pairsOf?_all ns eo l ds (by simpa using h)
    rw [List.zip_cons_cons, List.all_cons, ← ih]
    show (match pairOf? ns eo n d, pairsOf? ns eo l ds with | some a, some b => some (a :: b) | _, _ => none).isSome = _
    generalize pairsOf? ns eo l ds = o
    cases pairOf? ns eo n d <;> cases o <;> rfl
  | [], _ :: _, h => by simp at h
  | _ :: _, [], h => by simp at h
def spIsWritten (K : PySem.W.Frag) : Sp := fun vs H Q _ => ∃ (v w : V) (d : Th) (eo : Option Int), vs = [v, w] ∧ Td K H v d ∧ d.fits ∧ EndAt w eo ∧ ∀ H', Same H H' → Q (.bl (d.cert? eo).isSome) H'
theorem scIsWritten : FnScope ["value", "end", "numbers", "rows", "number", "pair", "digit", "row"] ["value", "end"] (defScope sIsWritten) := ⟨rfl, rfl, rfl, by decide +kernel, rfl, by decide +kernel, by decide +kernel⟩
theorem isTup_tup {d : Th} {n : Nat} (h : d.isTup (n : Int) = true) : ∃ ds, d = .tup ds ∧ ds.length = n := by
  cases d with
  | tup ds => exact ⟨ds, rfl, by have := of_decide_eq_true (show decide ((ds.length : Int) = n) = true from h); omega⟩
  | _ => cases h
theorem certOf_none {eo : Option Int} {nT : List Th} {rT : Th} (h : ascT (-1) nT = false ∨ rT.isTup nT.length = false) : certOf eo nT rT = none := by
  unfold certOf
  split
  · rename_i ns ds h1
    rw [if_neg]
    rintro ⟨h2, h3⟩
    rcases h with h | h
    · rw [h2] at h; cases h
    · have := of_decide_eq_false (show decide ((ds.length : Int) = nT.length) = false from h)
      omega
  · rfl
section
variable {P : Program} {w : World} {K : PySem.W.Frag} {mg : Str → Option Value} {base : Heap}
theorem ok_isWritten {f fR fA fF : Addr} {fd fdR fdA fdF : FuncData} {tS : Tok} (F : Fun K "is_written_as_span" "is_written_as_span" sIsWritten f fd) (B : BN mg) (hS : mg "SPAN" = some (.int 200 tS))
    (FR : Fn' P w K mg base 1 "is_row_of" fR fdR ["value", "many"] (spIsRowOf K)) (FA : Fn' P w K mg base 2 "are_ascending" fA fdA ["numbers"] (spAreAscending K)) (FF : Fn' P w K mg base 4 "is_row_for" fF fdF ["row", "numbers", "place", "end"] (spIsRowFor K)) :
    FnOk P w K mg base CX0 5 f fd ["value", "end"] (spIsWritten K) := by
  refine F.ok scIsWritten (fun vs H Q E h => ?_) (fun cdv A outer s H vs Q E hr h => ?_)
  · obtain ⟨v, w, d, eo, rfl, _⟩ := h
    rfl
  · obtain ⟨v, w, d, eo, rfl, hd, hf, he, k⟩ := h
    have nd := scIsWritten.nd
    refine ⟨_, pss_cons (ps_if (PW.pt (pw_or (pt_not (pt_val (pe_call FR.ok (by exact hr.mono (by decide)) (by rfl) FR.m FR.k FR.b .nil pass0 (pa_cons (pv 0) (pa_cons pe_int pa_nil)))))
          (pw_or (pt_not (pt_val (pe_callB call_isi (by rfl) B.isinst (by decide +kernel) (pa_cons (pe_ix ix_tup (pv 0) pe_int (fun _ _ => rfl)) (pa_cons (pe_bltn (v := .ty "tuple") (by rfl) B.tuple (by decide +kernel) rfl) pa_nil)))))
          (pw_or1 (pt_cmpR op_gt (pe_callB call_len (by rfl) B.len boot_len (pa_cons (pe_ix ix_tup (pv 0) pe_int (fun _ _ => rfl)) pa_nil)) (pe_glob (v := .int 200) rfl hS ⟨_, rfl⟩) (nomark _)))))) (pss_one (ps_ret pe_bl)) pss_nil)
      (pss_cons (ps_asg (pv 0) (pg_tup rfl (pgs_cons (pg_name (i := 2) nd rfl (Or.inl rfl)) (pgs_cons (pg_name (i := 3) nd rfl (Or.inl rfl)) pgs_nil))))
      (pss_cons (ps_if (PW.pt (pw_or (pt_not (pt_val (pe_call FA.ok (by exact hr.mono (by decide)) (by rfl) FA.m FA.k FA.b .nil pass0 (pa_cons (pv 2) pa_nil))))
          (pw_or1 (pt_not (pt_val (pe_call FR.ok (by exact hr.mono (by decide)) (by rfl) FR.m FR.k FR.b .nil pass0 (pa_cons (pv 3) (pa_cons (pe_callB call_len (by rfl) B.len boot_len (pa_cons (pv 2) pa_nil)) pa_nil)))))))) (pss_one (ps_ret pe_bl)) pss_nil)
      (pss_cons (ps_for PassesOwn.never rfl (pi_zipK true true (by rfl) B.zip (pa_cons (pv 2) (pa_cons (pv 3) pa_nil))) (pg_tup rfl (pgs_cons (pg_name (i := 4) nd rfl (Or.inl rfl)) (pgs_cons (pg_name (i := 5) nd rfl (Or.inl rfl)) pgs_nil)))
        (pss_cons (ps_if (pt_not (pt_val (pe_call FR.ok (by exact hr.mono (by decide)) (by rfl) FR.m FR.k FR.b .nil pass0 (pa_cons (pv 5) (pa_cons pe_int pa_nil))))) (pss_one (ps_ret pe_bl)) pss_nil)
        (pss_one (ps_for PassesOwn.never rfl (pi_enumK true (by rfl) B.enum (pa_cons (pv 5) pa_nil)) (pg_tup rfl (pgs_cons (pg_name (i := 6) nd rfl (Or.inl rfl)) (pgs_cons (pg_name (i := 7) nd rfl (Or.inl rfl)) pgs_nil)))
          (pss_one (ps_if (pt_not (pt_val (pe_call FF.ok (by exact hr) (by rfl) FF.m FF.k FF.b .nil pass0 (pa_cons (pv 7) (pa_cons (pv 2) (pa_cons (pe_op op_add (pe_op op_mul pe_int (pv 4)) (pv 6)) (pa_cons (pv 1) pa_nil))))))) (pss_one (ps_ret pe_bl)) pss_nil))))))
      (pss_one (ps_ret pe_bl))))), ?_⟩
    have no : ∀ {Hc : Hp}, Same H Hc → d.cert? eo = none → Q (.bl false) Hc := fun sH e => by
      have := k _ sH
      rw [e] at this; exact this
    refine ⟨_, rfl, v, d, 2, rfl, hd, _, rfl, ?_⟩
    by_cases h2 : d.isTup 2 = true
    case neg =>
      rw [Bool.not_eq_true] at h2
      refine iteT' (by rw [h2]; rfl) (no (Same.refl H) ?_)
      unfold Th.cert?
      split
      · cases h2
      · rfl
    refine iteF' (by rw [h2]; rfl) ?_
    obtain ⟨ds, rfl, hdl⟩ := isTup_tup (n := 2) h2
    obtain ⟨nd1, rT, rfl⟩ : ∃ x y, ds = [x, y] := by
      match ds, hdl with
      | [x, y], _ => exact ⟨x, y, rfl⟩
    obtain ⟨a, vs, rfl, ha, hx⟩ := td_tup hd
    obtain ⟨v1, v2, rfl, d1, d2⟩ : ∃ v1 v2, vs = [v1, v2] ∧ Td K H v1 nd1 ∧ Td K H v2 rT := by
      cases hx with
      | cons h1 r => cases r with
        | cons h2 r => cases r with
          | nil => exact ⟨_, _, rfl, h1, h2⟩
    have fit2 : nd1.fits ∧ rT.fits := by
      unfold Th.fits at hf
      have := hf.2
      simp only [fitsAll] at this
      exact ⟨this.1, this.2.1⟩
    have at0 : atI [v1, v2] 0 = some v1 := rfl
    obtain ⟨ty1, hty1, hki1⟩ := td_isTuple d1
    refine ⟨_, rfl, a, _, _, _, rfl, rfl, ha, at0, _, _, ty1, .type "tuple", _, rfl, .ty _, hty1, hki1, _, rfl, ?_⟩
    by_cases hn1 : nd1.isTuple = true
    case neg =>
      rw [Bool.not_eq_true] at hn1
      refine iteT' (by rw [hn1]; rfl) (no (Same.refl H) ?_)
      unfold Th.cert?
      split
      · rename_i e
        cases e
        cases hn1
      · rfl
    refine iteF' (by rw [hn1]; rfl) ?_
    obtain ⟨nT, rfl⟩ : ∃ nT, nd1 = .tup nT := by cases nd1 <;> first | exact ⟨_, rfl⟩ | cases hn1
    obtain ⟨a1, xs1, rfl, ha1, hx1⟩ := td_tup d1
    have hl1 := tdAll_len hx1
    refine ⟨_, rfl, a, _, _, _, rfl, rfl, ha, at0, _, _, rfl, .inr ⟨_, ha1, rfl⟩, _, _, rfl, rfl, _, rfl, ?_⟩
    rw [hl1]
    by_cases c1 : nT.length ≤ 200
    case neg =>
      refine iteT' (by simp; omega) (no (Same.refl H) ?_)
      show (if nT.length ≤ 200 then certOf eo nT rT else none) = none
      rw [if_neg c1]
    refine iteF' (by simp; omega) ?_
    have ecert : (Th.tup [.tup nT, rT]).cert? eo = certOf eo nT rT := by
      show (if nT.length ≤ 200 then certOf eo nT rT else none) = _
      rw [if_pos c1]
    refine ⟨_, rfl, a, _, rfl, ha, rfl, _, _, rfl, _, _, rfl, rfl, ?_⟩
    refine ⟨_, rfl, .ref a1, nT, rfl, d1, _, rfl, ?_⟩
    by_cases c2 : ascT (-1) nT = true
    case neg =>
      rw [Bool.not_eq_true] at c2
      exact iteT' (by rw [c2]; rfl) (no (Same.refl H) (by rw [ecert]; exact certOf_none (.inl c2)))
    refine iteF' (by rw [c2]; rfl) ?_
    obtain ⟨ns, ens, hasc⟩ := (ascT_iff nT (-1)).1 c2
    have hnsl : nT.length = ns.length := by rw [ens, List.length_map]
    have ha1n : SqT K H a1 (ns.map V.int) := by
      have := hx1
      rw [ens] at this
      rw [← tdAll_ints this]; exact ha1
    refine ⟨_, rfl, _, rfl, _, _, rfl, .inr ⟨_, ha1, rfl⟩, v2, rT, _, rfl, d2, _, rfl, ?_⟩
    rw [hl1]
    by_cases c3 : rT.isTup (nT.length : Int) = true
    case neg =>
      rw [Bool.not_eq_true] at c3
      exact iteT' (by rw [c3]; rfl) (no (Same.refl H) (by rw [ecert]; exact certOf_none (.inr c3)))
    refine iteF' (by rw [c3]; rfl) ?_
    obtain ⟨ds, rfl, hds⟩ := isTup_tup c3
    obtain ⟨a2, xs2, rfl, ha2, hx2⟩ := td_tup d2
    have hl2 := tdAll_len hx2
    have ecert2 : (certOf eo nT (.tup ds)).isSome = (List.zip ns ds).all fun x => (pairOf? ns eo x.1 x.2).isSome := by
      rw [← pairsOf?_all ns eo ns ds (by omega)]
      unfold certOf
      rw [ens, ints?_of]
      dsimp only
      rw [← ens, if_pos ⟨c2, hds⟩]
      cases pairsOf? ns eo ns ds <;> rfl
    have fits2 : fitsAll ds := by have := fit2.2; unfold Th.fits at this; exact this.2
    have no2 : ∀ {Hc : Hp} (i : Nat) (x : Int × Th), (List.zip ns ds)[i]? = some x → (pairOf? ns eo x.1 x.2).isSome = false → Same H Hc → Q (.bl false) Hc := fun {Hc} i x ex h sH => by
      have := k _ sH
      rw [ecert, ecert2] at this
      have e2 : ((List.zip ns ds).all fun x => (pairOf? ns eo x.1 x.2).isSome) = false := by
        rw [Bool.eq_false_iff]
        intro h3
        have := List.all_eq_true.mp h3 x (List.mem_of_getElem? ex)
        rw [h] at this; cases this
      rw [e2] at this; exact this
    refine ⟨_, rfl, _, rfl, a1, a2, _, _, rfl, ha1n, ha2, ?_⟩
    refine for_it (walk_zipK (t := true) (u := true) (n := ns.length) (by rw [List.length_map, hl2]; omega)) (fun i σ Hc => Same H Hc ∧ ((List.zip ns ds).take i).all (fun x => (pairOf? ns eo x.1 x.2).isSome) = true ∧
        ∃ x y z q : Option V, σ = [some (.ref a), some w, some (.ref a1), some (.ref a2), x, y, z, q]) ⟨Same.refl _, by simp, none, none, none, none, rfl⟩ (fun i σ Hc _ h => ⟨same_tup h.1 ha1n, same_tup h.1 ha2⟩) ?_ ?_
    · rintro i x σ Hc0 Hc hi ⟨s1, hall, y1, y2, y3, y4, rfl⟩ ⟨T, u1, u2, rfl, hT, rfl, q1, q2⟩
      replace q1 : (ns.map V.int)[i]? = some u1 := q1
      replace q2 : xs2[i]? = some u2 := q2
      rw [List.getElem?_map, List.getElem?_eq_getElem hi] at q1
      cases q1
      obtain ⟨dd, hd1, hd2⟩ := tdAll_get hx2 q2
      generalize hni : ns[i] = n at *
      have eni : ns[i]? = some n := by rw [← hni]; exact List.getElem?_eq_getElem hi
      have ez : (List.zip ns ds)[i]? = some (n, dd) := by rw [List.getElem?_zip_eq_some]; exact ⟨eni, hd1⟩
      have sT := same_new (o := .tup [V.int n, u2]) hT
      have s2 := s1.trans sT
      have fdd := fitsAll_get fits2 (List.mem_of_getElem? hd1)
      refine ⟨T, _, rfl, SqT.of upd_same, rfl, _, _, rfl, _, _, rfl, rfl, ?_⟩
      generalize (upd Hc0 T (.tup [V.int n, u2])) = Hc at *
      refine ⟨_, rfl, u2, dd, 2, rfl, td_same s2 hd2, _, rfl, ?_⟩
      by_cases c4 : dd.isTup 2 = true
      case neg =>
        rw [Bool.not_eq_true] at c4
        refine iteT' (by rw [c4]; rfl) (no2 i _ ez ?_ s2)
        show (pairOf? ns eo n dd).isSome = false
        unfold pairOf?
        split
        · cases c4
        · rfl
      refine iteF' (by rw [c4]; rfl) ?_
      obtain ⟨es, rfl, hel⟩ := isTup_tup (n := 2) c4
      obtain ⟨e0, e1, rfl⟩ : ∃ x y, es = [x, y] := by
        match es, hel with
        | [x, y], _ => exact ⟨x, y, rfl⟩
      obtain ⟨b, ws, rfl, hb, hw⟩ := td_tup (td_same s2 hd2)
      obtain ⟨w0, w1, rfl, f0, f1⟩ : ∃ v1 v2, ws = [v1, v2] ∧ Td K Hc v1 e0 ∧ Td K Hc v2 e1 := by
        cases hw with
        | cons h1 r => cases r with
          | cons h2 r => cases r with
            | nil => exact ⟨_, _, rfl, h1, h2⟩
      have fit3 : e0.fits ∧ e1.fits := by
        unfold Th.fits at fdd
        have := fdd.2
        simp only [fitsAll] at this
        exact ⟨this.1, this.2.1⟩
      have epair : (pairOf? ns eo n (.tup [e0, e1])).isSome = ((rowOf? ns (2 * n) eo e0).isSome && (rowOf? ns (2 * n + 1) eo e1).isSome) := by
        show (match rowOf? ns (2 * n) eo e0, rowOf? ns (2 * n + 1) eo e1 with | some a, some b => some (a, b) | _, _ => none).isSome = _
        cases rowOf? ns (2 * n) eo e0 <;> cases rowOf? ns (2 * n + 1) eo e1 <;> rfl
      refine ⟨_, rfl, b, [w0, w1], rfl, hb, ?_⟩
      refine for_it (walk_enumK (t := true) (xs := [w0, w1])) (fun j σ Hd => Same Hc Hd ∧ ((1 ≤ j → (rowOf? ns (2 * n) eo e0).isSome = true) ∧ (2 ≤ j → (rowOf? ns (2 * n + 1) eo e1).isSome = true)) ∧
          ∃ z q : Option V, σ = [some (.ref a), some w, some (.ref a1), some (.ref a2), some (.int n), some (.ref b), z, q]) ⟨Same.refl _, ⟨fun h => by omega, fun h => by omega⟩, y3, y4, rfl⟩ (fun j σ Hd _ h => same_tup h.1 hb) ?_ ?_
      · rintro j xj σ Hd0 Hd hj ⟨s3, ⟨hj1, hj2⟩, z, q, rfl⟩ ⟨T2, u3, u4, rfl, hT2, rfl, q3, q4⟩
        cases q3
        replace q4 : [w0, w1][j]? = some u4 := q4
        have sT2 := same_new (o := .tup [V.int (j : Nat), u4]) hT2
        have s4 := s3.trans sT2
        refine ⟨T2, _, rfl, SqT.of upd_same, rfl, _, _, rfl, _, _, rfl, rfl, ?_⟩
        generalize (upd Hd0 T2 (.tup [V.int (j : Nat), u4])) = Hd at *
        have row : ∀ (e : Th) (pl : Int), Td K Hc u4 e → e.fits → pl = 2 * n + (j : Int) → (∀ H5, Same Hd H5 → (if (!(rowOf? ns pl eo e).isSome) = true then Q (.bl false) H5 else (Same Hc H5 ∧ ((1 ≤ j + 1 → (rowOf? ns (2 * n) eo e0).isSome = true) ∧ (2 ≤ j + 1 → (rowOf? ns (2 * n + 1) eo e1).isSome = true)) ∧
          ∃ z q : Option V, [some (V.ref a), some w, some (.ref a1), some (.ref a2), some (.int n), some (.ref b), some (.int (j : Nat)), some u4] = [some (.ref a), some w, some (.ref a1), some (.ref a2), some (.int n), some (.ref b), z, q]))) →
            spIsRowFor K [u4, .ref a1, .int (2 * n + (j : Int)), w] Hd (fun v H5 => ∃ c, v = V.bl c ∧ (if (!c) = true then Q (.bl false) H5 else (Same Hc H5 ∧ ((1 ≤ j + 1 → (rowOf? ns (2 * n) eo e0).isSome = true) ∧ (2 ≤ j + 1 → (rowOf? ns (2 * n + 1) eo e1).isSome = true)) ∧
          ∃ z q : Option V, [some (V.ref a), some w, some (.ref a1), some (.ref a2), some (.int n), some (.ref b), some (.int (j : Nat)), some u4] = [some (.ref a), some w, some (.ref a1), some (.ref a2), some (.int n), some (.ref b), z, q]))) E0 := by
          intro e pl he1 hfe hpl hk
          subst hpl
          exact ⟨u4, w, a1, e, ns, _, eo, rfl, td_same s4 he1, hfe, same_tup (s2.trans s4) ha1n, by omega, he, fun H5 s5 => ⟨_, rfl, hk H5 s5⟩⟩
        refine ⟨_, rfl, _, rfl, _, rfl, _, _, rfl, rfl, .inl ⟨by decide, by decide⟩, _, rfl, _, _, rfl, rfl, _, rfl, ?_⟩
        match j, q4 with
        | 0, q4 =>
          cases q4
          refine row e0 (2 * n) f0 fit3.1 (by omega) fun H5 s5 => ?_
          cases hc : (rowOf? ns (2 * n) eo e0).isSome with
          | false => exact iteT (no2 i _ ez (by rw [epair, hc]; rfl) (s2.trans (s4.trans s5)))
          | true => exact iteF ⟨s4.trans s5, ⟨fun _ => rfl, fun h => by omega⟩, _, _, rfl⟩
        | 1, q4 =>
          cases q4
          refine row e1 (2 * n + 1) f1 fit3.2 (by omega) fun H5 s5 => ?_
          cases hc : (rowOf? ns (2 * n + 1) eo e1).isSome with
          | false => exact iteT (no2 i _ ez (by rw [epair, hc, Bool.and_false]) (s2.trans (s4.trans s5)))
          | true => exact iteF ⟨s4.trans s5, ⟨fun _ => hj1 (Nat.le_refl _), fun _ => rfl⟩, _, _, rfl⟩
      · rintro σ Hd ⟨s3, ⟨hj1, hj2⟩, z, q, rfl⟩
        refine ⟨s2.trans s3, ?_, _, _, _, _, rfl⟩
        rw [take_snoc' _ i _ ez, List.all_append, hall]
        have h1 := hj1 (by show 1 ≤ 2; decide)
        have h2 := hj2 (by show 2 ≤ 2; decide)
        simp [epair, h1, h2]
    · rintro σ Hc ⟨s1, hall, y1, y2, y3, y4, rfl⟩
      have := k _ s1
      rw [ecert, ecert2] at this
      rw [List.take_of_length_le (by simp; omega)] at hall
      rw [hall] at this
      exact this
end
end L2.EH
end S_T11
section S_T12
set_option exponentiation.threshold 20000
set_option maxRecDepth 100000
set_option maxHeartbeats 4000000
namespace L2.EH
open PySem PySem.Spec PyProof.Rows StX
open L2.Elim (at0)
/-! ### the numbers that are asked -/
def optT : Option Frow → Th
  | none => .non
  | some ps => prowT ps
def dupT (p : Fpair) : Th := .tup [optT p.1, optT p.2]
def rowsT (rs : List Fpair) : Th := .tup (rs.map dupT)
def certT (c : Cert) : Th := .tup [rowT c.ns, rowsT c.rows]
/-- what a certificate asks: its numbers, and the places of its rows -/
def Asked (ns : List Nat) (rs : List Fpair) (z : Nat) : Prop := z ∈ ns ∨ ∃ (i n : Nat) (p : Fpair), ns[i]? = some n ∧ rs[i]? = some p ∧ ((p.1.isSome = true ∧ z = 2 * n) ∨ (p.2.isSome = true ∧ z = 2 * n + 1))
def spAskedNumbers (K : PySem.W.Frag) : Sp := fun vs H Q _ => ∃ (a : Addr) (v : V) (ns : List Nat) (rs : List Fpair), vs = [.ref a, v] ∧ SqT K H a (natsV ns) ∧ Td K H v (rowsT rs) ∧ rs.length = ns.length ∧ ns.length ≤ 200 ∧
  ∀ H' p (zs : List Nat), Same H H' → H p = none → H' p = some (.lst (natsV zs)) → (∀ z, z ∈ zs ↔ Asked ns rs z) → zs.length ≤ 700 → Q (.ref p) H'
theorem scAsked : FnScope ["numbers", "rows", "number", "found", "pair", "digit", "row"] ["numbers", "rows"] (defScope sAskedNumbers) := ⟨rfl, rfl, rfl, by decide +kernel, rfl, by decide +kernel, by decide +kernel⟩
theorem keys_putK {kvs : List (Key × V)} {k j : Key} {y : V} : j ∈ (putK kvs k y).map (·.1) ↔ j = k ∨ j ∈ kvs.map (·.1) := by
  have key : ∀ (l : List (Key × V)) (j : Key), j ∈ l.map (·.1) ↔ (valV l j).isSome = true := fun l j => by
    rw [← valV_any, List.any_eq_true]
    constructor
    · intro h
      obtain ⟨p, hp, rfl⟩ := List.mem_map.1 h
      exact ⟨p, hp, by simp⟩
    · rintro ⟨p, hp, e⟩
      exact List.mem_map.2 ⟨p, hp, of_decide_eq_true e⟩
  rw [key, key, valV_put]
  by_cases h : j = k
  · simp [h]
  · simp [h]
/-- a dict whose keys are so many numbers -/
def KeysAre (kvs : List (Key × V)) (S : Nat → Prop) : Prop := (∀ k, k ∈ kvs.map (·.1) → ∃ n : Nat, k = Sum.inl (n : Int) ∧ S n) ∧ ∀ n : Nat, S n → (Sum.inl (n : Int) : Key) ∈ kvs.map (·.1)
theorem KeysAre.put {kvs : List (Key × V)} {S : Nat → Prop} (h : KeysAre kvs S) (n : Nat) (v : V) : KeysAre (putK kvs (Sum.inl (n : Int)) v) fun z => S z ∨ z = n := by
  refine ⟨fun k hk => ?_, fun z hz => ?_⟩
  · rcases keys_putK.1 hk with e | e
    · exact ⟨n, e, .inr rfl⟩
    · obtain ⟨m, e1, e2⟩ := h.1 k e
      exact ⟨m, e1, .inl e2⟩
  · rcases hz with hz | hz
    · exact keys_putK.2 (.inr (h.2 z hz))
    · rw [hz]; exact keys_putK.2 (.inl rfl)
theorem KeysAre.congr {kvs : List (Key × V)} {S S' : Nat → Prop} (h : KeysAre kvs S) (e : ∀ z, S z ↔ S' z) : KeysAre kvs S' :=
  ⟨fun k hk => by obtain ⟨n, e1, e2⟩ := h.1 k hk; exact ⟨n, e1, (e n).1 e2⟩, fun n hn => h.2 n ((e n).2 hn)⟩
section
variable {P : Program} {w : World} {K : PySem.W.Frag} {mg : Str → Option Value} {base : Heap}
theorem ok_asked {f : Addr} {fd : FuncData} (F : Fun K "asked_numbers" "asked_numbers" sAskedNumbers f fd) (B : BN mg) : FnOk P w K mg base CX0 1 f fd ["numbers", "rows"] (spAskedNumbers K) := by
  refine F.ok scAsked (fun vs H Q E h => ?_) (fun cdv A outer s H vs Q E hr h => ?_)
  · obtain ⟨a, v, ns, rs, rfl, _⟩ := h
    rfl
  · obtain ⟨a, v, ns, rs, rfl, ha, hv, hl, hn, k⟩ := h
    obtain ⟨a2, xs2, rfl, ha2, hx2⟩ := td_tup hv
    have hl2 : xs2.length = rs.length := by rw [tdAll_len hx2, List.length_map]
    have hu := hu_of hr
    have nd := scAsked.nd
    refine ⟨_, pss_cons (ps_setDcG (i := 3) (own := [("number", 2)]) (g := gName 2) (tt := tYes) dstK (by exact hu) (by rfl) nd rfl rfl (sw_trueD rfl rfl rfl (by decide +kernel)) (pi_tup (pv 0)) (blkOk_by (own := [("number", 2)]) (N := ["numbers", "rows", "number", "found", "pair", "digit", "row"]) (sc := defScope sAskedNumbers) (by decide +kernel)) (fun _ _ _ _ _ => pg_name (i := 2) nd rfl (Or.inl rfl) (Or.inr rfl)) (fun _ _ _ _ _ => pts_nil)
          (fun _ _ _ _ _ => pv 2) (fun _ _ _ _ _ => pe_bl))
      (pss_cons (ps_for PassesOwn.never rfl (pi_zipK true true (by rfl) B.zip (pa_cons (pv 0) (pa_cons (pv 1) pa_nil))) (pg_tup rfl (pgs_cons (pg_name (i := 2) nd rfl (Or.inl rfl)) (pgs_cons (pg_name (i := 4) nd rfl (Or.inl rfl)) pgs_nil)))
        (pss_one (ps_for PassesOwn.never rfl (pi_enumK true (by rfl) B.enum (pa_cons (pv 4) pa_nil)) (pg_tup rfl (pgs_cons (pg_name (i := 5) nd rfl (Or.inl rfl)) (pgs_cons (pg_name (i := 6) nd rfl (Or.inl rfl)) pgs_nil)))
          (pss_one (ps_if (pt_cmpR op_notN (pv 6) pe_non (by rfl)) (pss_one (ps_dput (by exact hu) (pv 3) (pe_op op_add (pe_op op_mul pe_int (pv 2)) (pv 5)) pe_bl rfl)) pss_nil)))))
      (pss_one (ps_ret (pe_callB cr_sortedI (by rfl) B.sorted (by decide +kernel) (pa_cons (pe_lock (pe_lc (own := [("number", 2)]) (g := gName 2) (tt := tYes) rfl nd (pi_keys (pv 3)) (blkOk_by (own := [("number", 2)]) (N := ["numbers", "rows", "number", "found", "pair", "digit", "row"]) (sc := defScope sAskedNumbers) (by decide +kernel))
          (fun _ _ _ _ _ => pg_name (i := 2) nd rfl (Or.inl rfl) (Or.inr rfl)) (fun _ _ _ _ _ => pts_nil)
          (fun _ _ _ _ _ => pe_callTy call_int1 (by rfl) B.int (by decide +kernel) (pa_cons (pv 2) pa_nil)))) pa_nil))))), ?_⟩
    refine ⟨_, rfl, a, rfl, ⟨_, ha⟩, fun D nD => ?_⟩
    have hnl : (natsV ns).length = ns.length := by simp [natsV]
    refine lc_out (walk_tup (xs := natsV ns)) (fun i Hc => Same H Hc ∧ ∃ kvs, Hc D = some (.dK kvs) ∧ kvs.length ≤ i ∧ KeysAre kvs fun z => z ∈ ns.take i) ⟨same_new nD, [], upd_same, by simp, ⟨fun k h => by simp at h, fun n h => by simp at h⟩⟩ (fun i Hc _ h => same_tup h.1 ha) ?_ ?_
    · rintro i x H0 Hc hi ⟨hs, kvs, hD, hkl, hk⟩ ⟨rfl, hx'⟩
      rw [hnl] at hi
      unfold natsV at hx'
      rw [List.getElem?_map, List.getElem?_eq_getElem hi] at hx'
      cases hx'
      refine ⟨rfl, _, rfl, kvs, Sum.inl ((ns[i] : Nat) : Int), rfl, hD, small1000 (by omega), fun c o hc => by rw [upd_ne (by intro z; rw [z, nD] at hc; cases hc)]; exact hs _ _ hc, _, upd_same, by have := length_putK kvs (Sum.inl ((ns[i] : Nat) : Int)) (V.bl true); omega, (hk.put _ _).congr fun z => ?_⟩
      show (z ∈ ns.take i ∨ z = ns[i]) ↔ z ∈ ns.take (i + 1)
      rw [take_snoc' ns i ns[i] (List.getElem?_eq_getElem hi), List.mem_append, List.mem_singleton]
    rintro H1 ⟨s1, kvs, hD, hkl, hk⟩
    rw [hnl] at hkl hk
    rw [List.take_length] at hk
    have up : ∀ {Hc : Hp} {kv kv' : List (Key × V)}, Hc D = some (.dK kv) → Same H Hc → Same H (upd Hc D (.dK kv')) := fun hDc s c o hc => by
      rw [upd_ne (by intro z; rw [z, nD] at hc; cases hc)]; exact s _ _ hc
    refine ⟨_, rfl, _, rfl, a, a2, _, _, rfl, same_tup s1 ha, same_tup s1 ha2, ?_⟩
    refine for_it (walk_zipK (t := true) (u := true) (n := ns.length) (by rw [hnl, hl2]; omega)) (fun i σ Hc => Same H Hc ∧ (∃ kvs, Hc D = some (.dK kvs) ∧ kvs.length ≤ ns.length + 2 * i ∧ KeysAre kvs fun z => z ∈ ns ∨ ∃ (j n : Nat) (p : Fpair), j < i ∧ ns[j]? = some n ∧ rs[j]? = some p ∧ ((p.1.isSome = true ∧ z = 2 * n) ∨ (p.2.isSome = true ∧ z = 2 * n + 1))) ∧
        ∃ x y z q : Option V, σ = [some (.ref a), some (.ref a2), x, some (.ref D), y, z, q]) ⟨s1, ⟨kvs, hD, by omega, hk.congr fun z => ⟨fun h => .inl h, fun h => h.elim id fun ⟨_, _, _, h, _⟩ => absurd h (Nat.not_lt_zero _)⟩⟩, _, none, none, none, rfl⟩ (fun i σ Hc _ h => ⟨same_tup h.1 ha, same_tup h.1 ha2⟩) ?_ ?_
    · rintro i x σ Hc0 Hc hi ⟨s2, ⟨kvs, hDc, hkl, hk⟩, y1, y2, y3, y4, rfl⟩ ⟨T, u1, u2, rfl, hT, rfl, q1, q2⟩
      replace q1 : (natsV ns)[i]? = some u1 := q1
      replace q2 : xs2[i]? = some u2 := q2
      unfold natsV at q1
      rw [List.getElem?_map, List.getElem?_eq_getElem hi] at q1
      cases q1
      generalize hni : ns[i] = n at *
      have eni : ns[i]? = some n := by rw [← hni]; exact List.getElem?_eq_getElem hi
      obtain ⟨dd, hd1, hd2⟩ := tdAll_get hx2 q2
      rw [List.getElem?_map] at hd1
      have hir : i < rs.length := by omega
      have epi : rs[i]? = some rs[i] := List.getElem?_eq_getElem hir
      rw [epi] at hd1
      cases hd1
      generalize rs[i] = pp at *
      obtain ⟨p0, p1⟩ := pp
      have sT := same_new (o := .tup [V.int (n : Int), u2]) hT
      have s3 := s2.trans sT
      refine ⟨T, _, rfl, SqT.of upd_same, rfl, _, _, rfl, _, _, rfl, rfl, ?_⟩
      have hDT := sT _ _ hDc
      generalize (upd Hc0 T (.tup [V.int (n : Int), u2])) = Hc at *
      obtain ⟨b, ws, rfl, hb, hw⟩ := td_tup hd2
      obtain ⟨w0, w1, rfl, f0, f1⟩ : ∃ v1 v2, ws = [v1, v2] ∧ Td K H v1 (optT p0) ∧ Td K H v2 (optT p1) := by
        cases hw with
        | cons h1 r => cases r with
          | cons h2 r => cases r with
            | nil => exact ⟨_, _, rfl, h1, h2⟩
      have nonIff : ∀ {v : V} {o : Option Frow}, Td K H v (optT o) → (v = .non ↔ o = none) := fun {v o} h => by
        cases o with
        | none => exact ⟨fun _ => rfl, fun _ => td_non h⟩
        | some ps =>
          obtain ⟨c, zs, rfl, _⟩ := td_tup h
          exact ⟨(fun e => by cases e), fun e => by cases e⟩
      refine ⟨_, rfl, b, [w0, w1], rfl, same_tup s3 hb, ?_⟩
      refine for_it (walk_enumK (t := true) (xs := [w0, w1])) (fun j σ Hd => Same H Hd ∧ (∃ kvs, Hd D = some (.dK kvs) ∧ kvs.length ≤ ns.length + 2 * i + j ∧ KeysAre kvs fun z => (z ∈ ns ∨ ∃ (j n : Nat) (p : Fpair), j < i ∧ ns[j]? = some n ∧ rs[j]? = some p ∧ ((p.1.isSome = true ∧ z = 2 * n) ∨ (p.2.isSome = true ∧ z = 2 * n + 1))) ∨ (1 ≤ j ∧ p0.isSome = true ∧ z = 2 * n) ∨ (2 ≤ j ∧ p1.isSome = true ∧ z = 2 * n + 1)) ∧
          ∃ z q : Option V, σ = [some (.ref a), some (.ref a2), some (.int (n : Int)), some (.ref D), some (.ref b), z, q]) ⟨s3, ⟨kvs, hDT, by omega, hk.congr fun z => ⟨fun h => .inl h, fun h => h.elim id fun h => h.elim (fun h => absurd h.1 (by omega)) fun h => absurd h.1 (by omega)⟩⟩, y3, y4, rfl⟩ (fun j σ Hd _ h => same_tup h.1 hb) ?_ ?_
      · rintro j xj σ Hd0 Hd hj ⟨s4, ⟨kvs2, hDd, hkl2, hk2⟩, z, q, rfl⟩ ⟨T2, u3, u4, rfl, hT2, rfl, q3, q4⟩
        cases q3
        replace q4 : [w0, w1][j]? = some u4 := q4
        have hj2 : j < 2 := hj
        have sT2 := same_new (o := .tup [V.int (j : Nat), u4]) hT2
        have s5 := s4.trans sT2
        refine ⟨T2, _, rfl, SqT.of upd_same, rfl, _, _, rfl, _, _, rfl, rfl, ?_⟩
        have hDd2 := sT2 _ _ hDd
        generalize (upd Hd0 T2 (.tup [V.int (j : Nat), u4])) = Hd at *
        refine ⟨_, rfl, rfl, _, rfl, ?_⟩
        have put : ∀ (o : Option Frow), Td K H u4 (optT o) → (∀ z : Nat, ((1 ≤ j + 1 ∧ p0.isSome = true ∧ z = 2 * n) ∨ (2 ≤ j + 1 ∧ p1.isSome = true ∧ z = 2 * n + 1)) ↔ (((1 ≤ j ∧ p0.isSome = true ∧ z = 2 * n) ∨ (2 ≤ j ∧ p1.isSome = true ∧ z = 2 * n + 1)) ∨ (o.isSome = true ∧ z = 2 * n + j))) →
            ∀ (N : L2.St → Hp → Prop), (∀ Hn, Same H Hn → (∃ kvs, Hn D = some (.dK kvs) ∧ kvs.length ≤ ns.length + 2 * i + (j + 1) ∧ KeysAre kvs fun z => (z ∈ ns ∨ ∃ (j n : Nat) (p : Fpair), j < i ∧ ns[j]? = some n ∧ rs[j]? = some p ∧ ((p.1.isSome = true ∧ z = 2 * n) ∨ (p.2.isSome = true ∧ z = 2 * n + 1))) ∨ (1 ≤ j + 1 ∧ p0.isSome = true ∧ z = 2 * n) ∨ (2 ≤ j + 1 ∧ p1.isSome = true ∧ z = 2 * n + 1)) → N [some (.ref a), some (.ref a2), some (.int (n : Int)), some (.ref D), some (.ref b), some (.int (j : Nat)), some u4] Hn) →
            (u4 = .non → N [some (.ref a), some (.ref a2), some (.int (n : Int)), some (.ref D), some (.ref b), some (.int (j : Nat)), some u4] Hd) ∧ (u4 ≠ .non → ∃ kvs, Hd D = some (.dK kvs) ∧ kvs.length < sizeLine ∧ N [some (.ref a), some (.ref a2), some (.int (n : Int)), some (.ref D), some (.ref b), some (.int (j : Nat)), some u4] (upd Hd D (.dK (putK kvs (Sum.inl ((2 * n + j : Nat) : Int)) (V.bl true))))) := by
          intro o ho he N hN
          constructor
          · intro e
            have eo := (nonIff ho).1 e
            refine hN Hd s5 ⟨kvs2, hDd2, by omega, hk2.congr fun z => ?_⟩
            rw [he z, eo]
            simp
          · intro e
            have eo : o.isSome = true := by
              cases o with
              | none => exact absurd ((nonIff ho).2 rfl) e
              | some _ => rfl
            refine ⟨kvs2, hDd2, small1000 (by omega), hN _ (up hDd2 s5) ⟨_, upd_same, by have := length_putK kvs2 (Sum.inl ((2 * n + j : Nat) : Int)) (V.bl true); omega, (hk2.put (2 * n + j) (V.bl true)).congr fun z => ?_⟩⟩
            rw [he z, eo, or_assoc]
            simp
        match j, q4 with
        | 0, q4 =>
          cases q4
          have pp := put p0 f0 (fun z => by constructor <;> (intro h; simp at h ⊢; omega)) (fun (σ : L2.St) Hd => Same H Hd ∧ (∃ kvs, Hd D = some (.dK kvs) ∧ kvs.length ≤ ns.length + 2 * i + (0 + 1) ∧ KeysAre kvs fun z => (z ∈ ns ∨ ∃ (j n : Nat) (p : Fpair), j < i ∧ ns[j]? = some n ∧ rs[j]? = some p ∧ ((p.1.isSome = true ∧ z = 2 * n) ∨ (p.2.isSome = true ∧ z = 2 * n + 1))) ∨ (1 ≤ 0 + 1 ∧ p0.isSome = true ∧ z = 2 * n) ∨ (2 ≤ 0 + 1 ∧ p1.isSome = true ∧ z = 2 * n + 1)) ∧ ∃ z q : Option V, σ = [some (V.ref a), some (.ref a2), some (.int (n : Int)), some (.ref D), some (.ref b), z, q]) fun Hn a1 a2 => ⟨a1, a2, _, _, rfl⟩
          by_cases hu4 : w0 = .non
          · refine iteF' (by simp [hu4]) (pp.1 hu4)
          · refine iteT' (by simpa using hu4) ?_
            obtain ⟨kv, e1, e2, e3⟩ := pp.2 hu4
            exact ⟨_, rfl, _, rfl, _, _, rfl, rfl, .inl ⟨by decide, by decide⟩, _, rfl, _, _, rfl, rfl, D, _, rfl, DPut.k (k := Sum.inl ((2 * n + 0 : Nat) : Int)) e1 e2, e3⟩
        | 1, q4 =>
          cases q4
          have pp := put p1 f1 (fun z => by constructor <;> (intro h; simp at h ⊢; omega)) (fun (σ : L2.St) Hd => Same H Hd ∧ (∃ kvs, Hd D = some (.dK kvs) ∧ kvs.length ≤ ns.length + 2 * i + (1 + 1) ∧ KeysAre kvs fun z => (z ∈ ns ∨ ∃ (j n : Nat) (p : Fpair), j < i ∧ ns[j]? = some n ∧ rs[j]? = some p ∧ ((p.1.isSome = true ∧ z = 2 * n) ∨ (p.2.isSome = true ∧ z = 2 * n + 1))) ∨ (1 ≤ 1 + 1 ∧ p0.isSome = true ∧ z = 2 * n) ∨ (2 ≤ 1 + 1 ∧ p1.isSome = true ∧ z = 2 * n + 1)) ∧ ∃ z q : Option V, σ = [some (V.ref a), some (.ref a2), some (.int (n : Int)), some (.ref D), some (.ref b), z, q]) fun Hn a1 a2 => ⟨a1, a2, _, _, rfl⟩
          by_cases hu4 : w1 = .non
          · refine iteF' (by simp [hu4]) (pp.1 hu4)
          · refine iteT' (by simpa using hu4) ?_
            obtain ⟨kv, e1, e2, e3⟩ := pp.2 hu4
            exact ⟨_, rfl, _, rfl, _, _, rfl, rfl, .inl ⟨by decide, by decide⟩, _, rfl, _, _, rfl, rfl, D, _, rfl, DPut.k (k := Sum.inl ((2 * n + 1 : Nat) : Int)) e1 e2, e3⟩
      · rintro σ Hd ⟨s4, ⟨kvs2, hDd, hkl2, hk2⟩, z, q, rfl⟩
        have h2 : [w0, w1].length = 2 := rfl
        rw [h2] at hkl2 hk2
        refine ⟨s4, ⟨kvs2, hDd, by omega, hk2.congr fun z => ?_⟩, _, _, _, _, rfl⟩
        constructor
        · rintro ((h | ⟨j, m, p, h1, h2, h3, h4⟩) | ⟨_, h1, h2⟩ | ⟨_, h1, h2⟩)
          · exact .inl h
          · exact .inr ⟨j, m, p, by omega, h2, h3, h4⟩
          · exact .inr ⟨i, n, (p0, p1), by omega, eni, epi, .inl ⟨h1, h2⟩⟩
          · exact .inr ⟨i, n, (p0, p1), by omega, eni, epi, .inr ⟨h1, h2⟩⟩
        · rintro (h | ⟨j, m, p, h1, h2, h3, h4⟩)
          · exact .inl (.inl h)
          · by_cases hj : j < i
            · exact .inl (.inr ⟨j, m, p, hj, h2, h3, h4⟩)
            · have : j = i := by omega
              subst this
              rw [eni] at h2
              rw [epi] at h3
              cases h2
              cases h3
              rcases h4 with h4 | h4
              · exact .inr (.inl ⟨by omega, h4⟩)
              · exact .inr (.inr ⟨by omega, h4⟩)
    · rintro σ Hc ⟨s2, ⟨kvs, hDc, hkl, hk⟩, y1, y2, y3, y4, rfl⟩
      refine ⟨D, _, hDc, trivial, fun od => ⟨_, rfl, D, od, rfl, .inl ⟨_, upd_same, fun L nL => ?_⟩⟩⟩
      have nL' : Hc L = none := by
        by_cases e : L = D
        · rw [e, upd_same] at nL; cases nL
        · rw [upd_ne e] at nL; exact nL
      have hLD : L ≠ D := by intro e; rw [e, hDc] at nL'; cases nL'
      have kint : ∀ p, p ∈ kvs → ∃ m : Nat, p.1 = Sum.inl (m : Int) := fun p hp => by
        obtain ⟨m, e, _⟩ := hk.1 p.1 (List.mem_map.2 ⟨p, hp, rfl⟩)
        exact ⟨m, e⟩
      let zs : List Nat := kvs.map fun p => match p.1 with | .inl i => i.toNat | .inr _ => 0
      refine lc_out (walk_keys (d := D) (o := od) (kvs := kvs)) (fun i Hd => Hd D = some (.frz od (.dK kvs)) ∧ (∀ y o', y ≠ D → Hc y = some o' → Hd y = some o') ∧ Hd L = some (.lst (natsV (zs.take i)))) ⟨by rw [upd_ne (Ne.symm hLD), upd_same], fun y o' hy ho => by rw [upd_ne (by intro e; rw [e, nL'] at ho; cases ho), upd_ne hy]; exact ho, by rw [upd_same]; rfl⟩ (fun i Hd _ h => h.1) ?_ ?_
      · rintro i x H0 Hd hi ⟨hA, hs, hL⟩ ⟨rfl, kk, v, hkv, rfl⟩
        obtain ⟨m, em⟩ := kint _ (List.mem_of_getElem? hkv)
        replace em : kk = Sum.inl (m : Int) := em
        subst em
        have ez : zs[i]? = some m := by
          show (kvs.map _)[i]? = _
          rw [List.getElem?_map, hkv]
          show some (m : Int).toNat = _
          rw [Int.toNat_natCast]
        refine ⟨rfl, _, rfl, .inl ⟨_, rfl, _, hL, small1000 (by simp [natsV]; omega), ?_⟩⟩
        refine ⟨by rw [upd_ne (Ne.symm hLD)]; exact hA, fun y o' hy ho => by rw [upd_ne (by intro e; rw [e, nL'] at ho; cases ho)]; exact hs y o' hy ho, ?_⟩
        rw [upd_same, take_snoc' zs i m ez]
        unfold natsV
        rw [List.map_append]; rfl
      · rintro Hd ⟨hA, hs, hL⟩
        have hzl : zs.length = kvs.length := by simp [zs]
        rw [← hzl, List.take_length] at hL
        refine ⟨hA, ?_⟩
        have sF : Same Hc (upd Hd D (.dK kvs)) := fun y o ho => by
          by_cases e : y = D
          · rw [e, hDc] at ho; cases ho; rw [e, upd_same]
          · rw [upd_ne e]; exact hs y o e ho
        have hL2 : (upd Hd D (.dK kvs)) L = some (.lst ((zs.map fun (z : Nat) => (z : Int)).map V.int)) := by
          rw [upd_ne hLD, hL, List.map_map]; rfl
        refine ⟨L, _, rfl, SqL.of hL2, fun ns' p hp hsort np => ?_⟩
        have hzk : ∀ z : Nat, z ∈ zs ↔ (Sum.inl (z : Int) : Key) ∈ kvs.map (·.1) := fun z => by
          constructor
          · intro h
            obtain ⟨q, hq, e⟩ := List.mem_map.1 h
            obtain ⟨m, em⟩ := kint q hq
            refine List.mem_map.2 ⟨q, hq, ?_⟩
            rw [em] at e ⊢
            have e' : (m : Int).toNat = z := e
            rw [Int.toNat_natCast] at e'
            rw [e']
          · intro h
            obtain ⟨q, hq, e⟩ := List.mem_map.1 h
            refine List.mem_map.2 ⟨q, hq, ?_⟩
            rw [e]
            show (z : Int).toNat = z
            rw [Int.toNat_natCast]
        have hns : ns' = (ns'.map fun i => i.toNat).map fun (z : Nat) => (z : Int) := by
          rw [List.map_map]
          conv => lhs; rw [← List.map_id ns']
          refine List.map_congr_left fun i hi => ?_
          obtain ⟨z, _, e⟩ := List.mem_map.1 (hp.mem_iff.1 hi)
          show i = ((i.toNat : Nat) : Int)
          omega
        have sEnd := (s2.trans sF).trans (same_new (o := .lst (ns'.map V.int)) np)
        refine k _ p (ns'.map fun i => i.toNat) sEnd ((s2.trans sF).free np) ?_ (fun z => ?_) ?_
        · rw [upd_same]
          unfold natsV
          conv => lhs; rw [hns]
          rw [List.map_map]; rfl
        · have e1 : z ∈ (ns'.map fun i => i.toNat) ↔ z ∈ zs := by
            constructor
            · intro h
              obtain ⟨i, hi, rfl⟩ := List.mem_map.1 h
              obtain ⟨z, hz, e⟩ := List.mem_map.1 (hp.mem_iff.1 hi)
              rw [← e, Int.toNat_natCast]; exact hz
            · intro h
              exact List.mem_map.2 ⟨(z : Int), hp.mem_iff.2 (List.mem_map.2 ⟨z, h, rfl⟩), Int.toNat_natCast z⟩
          rw [e1, hzk]
          constructor
          · intro h
            obtain ⟨m, em, hm⟩ := hk.1 _ h
            have : z = m := by injection em with em; omega
            subst this
            rcases hm with hm | ⟨j, n, p, _, h2, h3, h4⟩
            · exact .inl hm
            · exact .inr ⟨j, n, p, h2, h3, h4⟩
          · intro h
            refine hk.2 z ?_
            rcases h with hm | ⟨j, n, p, h2, h3, h4⟩
            · exact .inl hm
            · exact .inr ⟨j, n, p, (List.getElem?_eq_some_iff.1 h2).1, h2, h3, h4⟩
        · rw [List.length_map, hp.length_eq, List.length_map, hzl]; omega
end
end L2.EH
end S_T12
section S_T13
set_option exponentiation.threshold 20000
set_option maxRecDepth 100000
set_option maxHeartbeats 4000000
namespace L2.EH
open PySem PySem.Spec PyProof.Rows StX
open L2.Elim (at0)
/-! ### whether a row is right -/
abbrev Sel := List ((Int × Int) × Nat)
def selP (z : Sel) : Sel := z.filter fun x => !decide (x.1 = (0, 1))
def shS (z : Sel) : Nat := shr (z.map (·.1))
def facS (z : Sel) : List Int := z.map fun x => x.1.1 * (((shS z : Nat) : Int) / x.1.2)
def totS (z : Sel) (J : Nat → List Int) (j : Nat) : Int := (List.zipWith (fun f x => f * at0 (J x.2) j) (facS z) z).sum
def RightB (ps : Frow) (ns : List Nat) (J : Nat → List Int) (place W : Nat) : Prop := ∀ j, j < W → totS (selP (List.zip ps ns)) J j = at0 (J place) j * ((shS (selP (List.zip ps ns)) : Nat) : Int)
structure RightOk (ps : Frow) (ns : List Nat) (J : Nat → List Int) (place W m : Nat) : Prop where
  len : ps.length = ns.length
  few : ns.length ≤ 900
  pos : ∀ p, p ∈ ps → 0 < p.2 ∧ p.2.natAbs < 2 ^ 9000 ∧ p.1.natAbs < 2 ^ 9000
  sh : ∀ i, shr (((selP (List.zip ps ns)).map (·.1)).take i) < 2 ^ 13400
  wide : ∀ n, n ∈ ns ∨ n = place → (J n).length = W ∧ ∀ z, z ∈ J n → z.natAbs < 2 ^ m
  w900 : W ≤ 900
  m0 : 0 < m
  mm : m ≤ 400000
def TabAt (K : PySem.W.Frag) (H : Hp) (kvs : List (Key × V)) (J : Nat → List Int) (S : Nat → Prop) : Prop := ∀ n : Nat, S n → ∃ v, valV kvs (Sum.inl (n : Int)) = some v ∧ ValAt K H v (J n, 1)
def spIsRight (K : PySem.W.Frag) : Sp := fun vs H Q _ => ∃ (v : V) (a D : Addr) (ps : Frow) (ns : List Nat) (place : Nat) (kvs : List (Key × V)) (J : Nat → List Int) (W m : Nat), vs = [v, .ref a, .int (place : Int), .ref D] ∧ Dp K H v (prowD ps) ∧ SqT K H a (natsV ns) ∧ H D = some (.dK kvs) ∧
  TabAt K H kvs J (fun n => n ∈ ns ∨ n = place) ∧ RightOk ps ns J place W m ∧ ∀ b : Bool, (b = true ↔ RightB ps ns J place W) → ∀ H', Same H H' → Q (.bl b) H'
abbrev nmRight : List Str := ["row", "numbers", "place", "table", "tops", "bottoms", "columns", "pair", "number", "column", "bottom", "shared", "factors", "wanted", "below", "at", "worth", "total", "top", "factor"]
theorem scIsRight : FnScope nmRight ["row", "numbers", "place", "table"] (defScope sIsRight) := ⟨rfl, rfl, rfl, by decide +kernel, rfl, by decide +kernel, by decide +kernel⟩
theorem selP_snoc (z : Sel) (x : (Int × Int) × Nat) : selP (z ++ [x]) = selP z ++ (if x.1 = (0, 1) then [] else [x]) := by
  unfold selP
  rw [List.filter_append]
  congr 1
  by_cases h : x.1 = (0, 1)
  · rw [if_pos h, List.filter_cons_of_neg (by simp [h])]; rfl
  · rw [if_neg h, List.filter_cons_of_pos (by simpa using h)]; rfl
theorem facS_len (z : Sel) : (facS z).length = z.length := by simp [facS]
section
variable {P : Program} {w : World} {K : PySem.W.Frag} {mg : Str → Option Value} {base : Heap}
theorem ok_isRight {f zA : Addr} {fd : FuncData} (F : Fun K "is_right" "is_right" sIsRight f fd) (B : BN mg) (GL : mg "lcm" = some (.builtin "math.lcm")) (hZ : mg "ZERO" = some (.ref zA)) (KZ : KPair K zA 0 1) :
    FnOk P w K mg base CX0 1 f fd ["row", "numbers", "place", "table"] (spIsRight K) := by
  refine F.ok scIsRight (fun vs H Q E h => ?_) (fun cdv A outer s H vs Q E hr h => ?_)
  · obtain ⟨v, a, D, ps, ns, place, kvs, J, W, m, rfl, _⟩ := h
    rfl
  · obtain ⟨v, a, D, ps, ns, place, kvs, J, W, m, rfl, hv, ha, hD, hT, hO, k⟩ := h
    obtain ⟨b, ys, rfl, hb, hy⟩ := dp_tup hv
    have hyl : ys.length = ps.length := by rw [dpAll_len hy, List.length_map]
    have hu := hu_of hr
    have hu64 := hr.units
    have nd := scIsRight.nd
    obtain ⟨vp, evp, tp, cp, ttp, rfl, htp, hcp⟩ := hT place (.inr rfl)
    refine ⟨_, pss_cons (ps_set (i := 4) nd rfl (Or.inl rfl) (pe_lst pa_nil))
      (pss_cons (ps_set (i := 5) nd rfl (Or.inl rfl) (pe_lst pa_nil))
      (pss_cons (ps_set (i := 6) nd rfl (Or.inl rfl) (pe_lst pa_nil))
      (pss_cons (ps_for PassesOwn.never rfl (pi_zipK true true (by rfl) B.zip (pa_cons (pv 0) (pa_cons (pv 1) pa_nil))) (pg_tup rfl (pgs_cons (pg_name (i := 7) nd rfl (Or.inl rfl)) (pgs_cons (pg_name (i := 8) nd rfl (Or.inl rfl)) pgs_nil)))
        (pss_one (ps_if (pt_cmpR (show OpR _ (compareOp .NotEq) (rNeD K) from op_neD (by exact hu64)) (pv 7) (pe_glob (v := .ref zA) (by rfl) hZ rfl) (by rfl))
          (pss_cons (ps_asg (pe_dget (by exact hu) (pv 3) (pv 8) (fun _ _ => rfl)) (pg_tup rfl (pgs_cons (pg_name (i := 9) nd rfl (Or.inl rfl)) (pgs_cons (pg_name (i := 10) nd rfl (Or.inl rfl)) pgs_nil))))
          (pss_cons (ps_expr (pe_bm PySem.F.plainAttrs_list PySem.F.slot_list_append PySem.F.type_list_append mt_append (pv 4) (pa_cons (pe_ix ix_tup (pv 7) pe_int (fun _ _ => rfl)) pa_nil)))
          (pss_cons (ps_expr (pe_bm PySem.F.plainAttrs_list PySem.F.slot_list_append PySem.F.type_list_append mt_append (pv 5) (pa_cons (pe_op op_mulW (pe_ix ix_tup (pv 7) pe_int (fun _ _ => rfl)) (pv 10)) pa_nil)))
          (pss_one (ps_expr (pe_bm PySem.F.plainAttrs_list PySem.F.slot_list_append PySem.F.type_list_append mt_append (pv 6) (pa_cons (pv 9) pa_nil)))))))
          pss_nil)))
      (pss_cons (ps_set (i := 11) nd rfl (Or.inr rfl) pe_int)
      (pss_cons (ps_for PassesOwn.never rfl (pi_list (pv 5)) (pg_name (i := 10) nd rfl (Or.inl rfl))
        (pss_one (ps_set (i := 11) nd rfl (Or.inr rfl) (pe_callBfun cr_lcm (by rfl) GL (pa_cons (pv 11) (pa_cons (pv 10) pa_nil))))))
      (pss_cons (ps_setLc (i := 12) (own := [("top", 18), ("bottom", 10)]) (g := gTup K 2 (gCons (gName 18) (gCons (gName 10) gNil))) (tt := tYes) (by rfl) nd rfl rfl (sw_true rfl rfl rfl (by decide +kernel)) (pi_zipK false false (by rfl) B.zip (pa_cons (pv 4) (pa_cons (pv 5) pa_nil))) (blkOk_by (own := [("top", 18), ("bottom", 10)]) (N := nmRight) (sc := defScope sIsRight) (by decide +kernel))
          (fun _ _ _ _ _ => pg_tup rfl (pgs_cons (pg_name (i := 18) nd rfl (Or.inl rfl) (Or.inr rfl)) (pgs_cons (pg_name (i := 10) nd rfl (Or.inl rfl) (Or.inr rfl)) pgs_nil rfl) rfl) rfl rfl) (fun _ _ _ _ _ => pts_nil)
          (fun _ _ _ _ _ => pe_op op_mulW (pv 18) (pe_op op_fdivW (pv 11) (pv 10))))
      (pss_cons (ps_asg (pe_dget (by exact hu) (pv 3) (pv 2) (fun _ _ => rfl)) (pg_tup rfl (pgs_cons (pg_name (i := 13) nd rfl (Or.inl rfl)) (pgs_cons (pg_name (i := 14) nd rfl (Or.inl rfl)) pgs_nil))))
      (pss_cons (ps_for PassesOwn.never rfl (pi_enumK ttp (by rfl) B.enum (pa_cons (pv 13) pa_nil)) (pg_tup rfl (pgs_cons (pg_name (i := 15) nd rfl (Or.inr rfl)) (pgs_cons (pg_name (i := 16) nd rfl (Or.inl rfl)) pgs_nil)))
        (pss_cons (ps_set (i := 17) nd rfl (Or.inl rfl) (pe_callB (cr_sum rfl) (by rfl) B.sum (by decide +kernel) (pa_cons (pe_lc (own := [("factor", 19), ("column", 9)]) (g := gTup K 2 (gCons (gName 19) (gCons (gName 9) gNil))) (tt := tYes) rfl nd (pi_zipK false false (by rfl) B.zip (pa_cons (pv 12) (pa_cons (pv 6) pa_nil))) (blkOk_by (own := [("factor", 19), ("column", 9)]) (N := nmRight) (sc := defScope sIsRight) (by decide +kernel))
            (fun _ _ _ _ _ => pg_tup rfl (pgs_cons (pg_name (i := 19) nd rfl (Or.inl rfl) (Or.inr rfl)) (pgs_cons (pg_name (i := 9) nd rfl (Or.inl rfl) (Or.inr rfl)) pgs_nil rfl) rfl) rfl rfl) (fun _ _ _ _ _ => pts_nil)
            (fun _ _ _ _ _ => pe_op op_mulW (pv 19) (pe_ix (ix_seqK (K := K) rfl) (pv 9) (pv 15) (fun _ _ => rfl)))) pa_nil)))
        (pss_one (ps_if (pt_cmpR op_ne (pe_op op_mulW (pv 17) (pv 14)) (pe_op op_mulW (pv 16) (pv 11)) (nomark _)) (pss_one (ps_ret pe_bl)) pss_nil))))
      (pss_one (ps_ret pe_bl)))))))))), ?_⟩
    refine ⟨by show 0 ≤ sizeLine; decide, fun p1 np1 => ?_⟩
    have s1 := same_new (o := .lst []) np1
    have h1 : (upd H p1 (.lst [])) p1 = some (.lst []) := upd_same
    generalize hH1 : upd H p1 (.lst []) = H1 at *
    refine ⟨by show 0 ≤ sizeLine; decide, fun p2 np2 => ?_⟩
    have s2 := same_new (o := .lst []) np2
    have h2 : (upd H1 p2 (.lst [])) p2 = some (.lst []) := upd_same
    have h21 : (upd H1 p2 (.lst [])) p1 = some (.lst []) := s2 _ _ h1
    have n12 : p1 ≠ p2 := ne_of_none h1 np2
    generalize hH2 : upd H1 p2 (.lst []) = H2 at *
    refine ⟨by show 0 ≤ sizeLine; decide, fun p3 np3 => ?_⟩
    have s3 := same_new (o := .lst []) np3
    have h3 : (upd H2 p3 (.lst [])) p3 = some (.lst []) := upd_same
    have h32 : (upd H2 p3 (.lst [])) p2 = some (.lst []) := s3 _ _ h2
    have h31 : (upd H2 p3 (.lst [])) p1 = some (.lst []) := s3 _ _ h21
    have n13 : p1 ≠ p3 := ne_of_none h21 np3
    have n23 : p2 ≠ p3 := ne_of_none h2 np3
    have q1 : H p1 = none := np1
    have q2 : H p2 = none := s1.free np2
    have q3 : H p3 = none := (s1.trans s2).free np3
    have s03 := (s1.trans s2).trans s3
    generalize hH3 : upd H2 p3 (.lst []) = H3 at *
    have keep : ∀ {Hc : Hp} {p : Addr} {o : HO}, (p = p1 ∨ p = p2 ∨ p = p3) → Same H Hc → Same H (upd Hc p o) := fun {Hc p o} hp sc c q hc => by
      rw [upd_ne (by
        intro z
        rw [z] at hc
        rcases hp with e | e | e
        · rw [e, q1] at hc; cases hc
        · rw [e, q2] at hc; cases hc
        · rw [e, q3] at hc; cases hc)]
      exact sc _ _ hc
    have hnl : (natsV ns).length = ns.length := by simp [natsV]
    have hzl : (List.zip ps ns).length = ns.length := by rw [List.length_zip, hO.len]; omega
    refine ⟨_, rfl, _, rfl, b, a, _, _, rfl, same_tup s03 hb, same_tup s03 ha, ?_⟩
    refine for_it (walk_zipK (t := true) (u := true) (n := ns.length) (by rw [hnl, hyl, hO.len]; omega)) (fun i σ Hc => Same H Hc ∧ Hc p1 = some (.lst ((selP ((List.zip ps ns).take i)).map fun x => V.int x.1.1)) ∧ Hc p2 = some (.lst ((selP ((List.zip ps ns).take i)).map fun x => V.int x.1.2)) ∧
        (∃ cols : List Addr, Hc p3 = some (.lst (cols.map V.ref)) ∧ cols.length = (selP ((List.zip ps ns).take i)).length ∧ ∀ (j : Nat) (c : Addr) (x : (Int × Int) × Nat), cols[j]? = some c → (selP ((List.zip ps ns).take i))[j]? = some x → ∃ tt, SqK tt K H c ((J x.2).map V.int)) ∧
        ∃ x7 x8 x9 x10 : Option V, σ = [some (.ref b), some (.ref a), some (.int (place : Int)), some (.ref D), some (.ref p1), some (.ref p2), some (.ref p3), x7, x8, x9, x10, none, none, none, none, none, none, none, none, none])
      ⟨s03, by simpa [selP] using h31, by simpa [selP] using h32, ⟨[], h3, by simp [selP], fun j c x e _ => by simp at e⟩, none, none, none, none, rfl⟩ (fun i σ Hc _ h => ⟨same_tup h.1 hb, same_tup h.1 ha⟩) ?_ ?_
    · rintro i x σ Hc0 Hc hi ⟨sc, g1, g2, ⟨cols, g3, hcl, hcs⟩, x7, x8, x9, x10, rfl⟩ ⟨T, u1, u2, rfl, hT0, rfl, e1, e2⟩
      replace e1 : ys[i]? = some u1 := e1
      replace e2 : (natsV ns)[i]? = some u2 := e2
      unfold natsV at e2
      rw [List.getElem?_map, List.getElem?_eq_getElem hi] at e2
      cases e2
      have eni : ns[i]? = some ns[i] := List.getElem?_eq_getElem hi
      obtain ⟨dd, hd1, hd2⟩ := dpAll_get' hy e1
      rw [List.getElem?_map] at hd1
      have hip : i < ps.length := by have := hO.len; omega
      have epi : ps[i]? = some ps[i] := List.getElem?_eq_getElem hip
      rw [epi] at hd1
      cases hd1
      have hpm := List.mem_of_getElem? epi
      have hnm := List.mem_of_getElem? eni
      generalize ps[i] = p at *
      generalize ns[i] = n at *
      have ez : (List.zip ps ns)[i]? = some (p, n) := by rw [List.getElem?_zip_eq_some]; exact ⟨epi, eni⟩
      have tk := take_snoc' _ i _ ez
      have sT := same_new (o := .tup [u1, V.int (n : Int)]) hT0
      have sc2 := sc.trans sT
      obtain ⟨pb, rfl, hpb⟩ := dp_pair hd2
      have hpT := hO.pos p hpm
      refine ⟨T, _, rfl, SqT.of upd_same, rfl, _, _, rfl, _, _, rfl, rfl, ?_⟩
      have g1' := sT _ _ g1
      have g2' := sT _ _ g2
      have g3' := sT _ _ g3
      generalize (upd Hc0 T (.tup [V.ref pb, V.int (n : Int)])) = Hc at *
      refine ⟨_, rfl, _, _, dp_same sc2 hd2, row_dp (r := [0, 1]) (KZ _), shaped_row [p.1, p.2], shaped_row [0, 1], _, rfl, ?_⟩
      have e : PyData.eqv (pairD p) (rowD [0, 1]) = decide (p = (0, 1)) := by
        have := eqv_row [p.1, p.2] [0, 1]
        rw [show pairD p = rowD [p.1, p.2] from rfl, this]
        refine decide_eq_decide.2 ⟨fun h => ?_, fun h => by rw [h]⟩
        injection h with h1 h2
        injection h2 with h2 h3
        exact Prod.ext h1 h2
      rw [e]
      have hsl : (selP ((List.zip ps ns).take i)).length ≤ i := by
        refine Nat.le_trans (List.length_filter_le _ _) ?_
        rw [List.length_take]; omega
      have hns := hO.few
      by_cases hz : p = (0, 1)
      · refine iteF' (by simp [hz]) ⟨sc2, ?_, ?_, ⟨cols, g3', ?_, ?_⟩, _, _, _, _, rfl⟩
        · rw [tk, selP_snoc, if_pos hz, List.append_nil]; exact g1'
        · rw [tk, selP_snoc, if_pos hz, List.append_nil]; exact g2'
        · rw [tk, selP_snoc, if_pos hz, List.append_nil]; exact hcl
        · rw [tk, selP_snoc, if_pos hz, List.append_nil]; exact hcs
      · refine iteT' (by simpa using hz) ?_
        obtain ⟨v, ev, t, c, tt, rfl, ht, hc⟩ := hT n (.inl hnm)
        have hDc := sc2 _ _ hD
        refine ⟨_, rfl, _, rfl, D, .ref t, rfl, .inl ⟨kvs, Sum.inl (n : Int), .inl hDc, rfl, ev.symm⟩, t, _, rfl, same_tup sc2 ht, rfl, _, _, rfl, _, _, rfl, rfl, ?_⟩
        have at0' : atI [V.int p.1, V.int p.2] 0 = some (V.int p.1) := rfl
        have at1' : atI [V.int p.1, V.int p.2] 1 = some (V.int p.2) := rfl
        have hpb2 := same_tup sc2 hpb
        refine ⟨_, rfl, .inl ⟨rfl, _, SqL.of g1'⟩, _, rfl, pb, _, _, _, rfl, rfl, hpb2, at0', p1, _, _, rfl, rfl, g1', small1000 (by simp; omega), ?_⟩
        have hcm : CMulW p.2 1 := wide_mul (a := 9000) (b := 1) hpT.2.1 (by decide) (by decide) (by decide) (by decide)
        have g2'' : (upd Hc p1 (.lst ((selP ((List.zip ps ns).take i)).map (fun x => V.int x.1.1) ++ [V.int p.1]))) p2 = some (.lst ((selP ((List.zip ps ns).take i)).map fun x => V.int x.1.2)) := by rw [upd_ne (Ne.symm n12)]; exact g2'
        refine ⟨_, rfl, .inl ⟨rfl, _, SqL.of g2''⟩, _, rfl, pb, _, _, _, rfl, rfl, tup_keepT (keepT_upd g1' rfl) hpb2, at1', _, rfl, _, _, rfl, rfl, hcm, p2, _, _, rfl, rfl, g2'', small1000 (by simp; omega), ?_⟩
        have g3'' : (upd (upd Hc p1 (.lst ((selP ((List.zip ps ns).take i)).map (fun x => V.int x.1.1) ++ [V.int p.1]))) p2 (.lst ((selP ((List.zip ps ns).take i)).map (fun x => V.int x.1.2) ++ [V.int (p.2 * 1)]))) p3 = some (.lst (cols.map V.ref)) := by rw [upd_ne (Ne.symm n23), upd_ne (Ne.symm n13)]; exact g3'
        refine ⟨_, rfl, .inl ⟨rfl, _, SqL.of g3''⟩, _, rfl, p3, _, _, rfl, rfl, g3'', small1000 (by simp; omega), ?_⟩
        refine ⟨keep (.inr (.inr rfl)) (keep (.inr (.inl rfl)) (keep (.inl rfl) sc2)), ?_, ?_, ⟨cols ++ [c], ?_, ?_, ?_⟩, _, _, _, _, rfl⟩
        · rw [upd_ne n13, upd_ne n12, upd_same, tk, selP_snoc, if_neg hz, List.map_append]; rfl
        · rw [upd_ne n23, upd_same, tk, selP_snoc, if_neg hz, List.map_append]
          show some (HO.lst (_ ++ [V.int (p.2 * 1)])) = _
          rw [Int.mul_one]; rfl
        · rw [upd_same, List.map_append]; rfl
        · rw [tk, selP_snoc, if_neg hz]; simp [hcl]
        · intro j c' x' w1 w2
          rw [tk, selP_snoc, if_neg hz] at w2
          by_cases hj : j < cols.length
          · rw [List.getElem?_append_left hj] at w1
            rw [List.getElem?_append_left (by omega)] at w2
            exact hcs j c' x' w1 w2
          · have hj2 : j = cols.length := by
              have := (List.getElem?_eq_some_iff.1 w1).1
              simp at this; omega
            subst hj2
            rw [List.getElem?_append_right (Nat.le_refl _), Nat.sub_self] at w1
            rw [List.getElem?_append_right (by omega), hcl, Nat.sub_self] at w2
            cases w1
            cases w2
            exact ⟨tt, hc⟩
    rintro σ Hc ⟨sc, g1, g2, ⟨cols, g3, hcl, hcs⟩, x7, x8, x9, x10, rfl⟩
    rw [List.take_of_length_le (by omega)] at g1 g2 hcl hcs
    have sh := hO.sh
    have hsel : ∀ x, x ∈ selP (List.zip ps ns) → x.1 ∈ ps ∧ x.2 ∈ ns := fun x hx => by
      have h1 := (List.mem_filter.1 hx).1
      obtain ⟨y1, y2⟩ := x
      exact ⟨(List.of_mem_zip h1).1, (List.of_mem_zip h1).2⟩
    have hsll : (selP (List.zip ps ns)).length ≤ 900 := by
      have := hO.few
      have := List.length_filter_le (fun x : (Int × Int) × Nat => !decide (x.1 = (0, 1))) (List.zip ps ns)
      unfold selP; omega
    have eRB : RightB ps ns J place W ↔ ∀ j, j < W → totS (selP (List.zip ps ns)) J j = at0 (J place) j * ((shS (selP (List.zip ps ns)) : Nat) : Int) := Iff.rfl
    generalize hS : selP (List.zip ps ns) = S at *
    -- what the bottoms share
    have sB : SqL K Hc p2 (S.map fun x => V.int x.1.2) := SqL.of g2
    refine ⟨_, rfl, p2, rfl, ⟨_, sB⟩, ?_⟩
    refine for_it (walk_list (xs := S.map fun x => V.int x.1.2)) (fun i σ Hd => Hd = Hc ∧ ∃ x10 : Option V, σ = [some (.ref b), some (.ref a), some (.int (place : Int)), some (.ref D), some (.ref p1), some (.ref p2), some (.ref p3), x7, x8, x9, x10, some (.int ((shr ((S.map (·.1)).take i) : Nat) : Int)), none, none, none, none, none, none, none, none]) ⟨rfl, x10, rfl⟩ (fun i σ Hd _ h => by rw [h.1]; exact sB) ?_ ?_
    · rintro i x σ Hd0 Hd hi ⟨rfl, x10, rfl⟩ ⟨rfl, hx'⟩
      rw [List.length_map] at hi
      have eS : S[i]? = some S[i] := List.getElem?_eq_getElem hi
      rw [List.getElem?_map, eS] at hx'
      cases hx'
      have hpT := hO.pos _ (hsel _ (List.getElem_mem hi)).1
      refine ⟨_, rfl, _, rfl, _, _, rfl, ?_, ?_, rfl, some (.int (S[i]).1.2), ?_⟩
      · rw [natCast_natAbs]; exact sh i
      · exact Nat.lt_of_lt_of_le hpT.2.1 (Nat.pow_le_pow_right (by decide) (by decide))
      · rw [take_snoc' (S.map (·.1)) i (S[i]).1 (by rw [List.getElem?_map, eS]; rfl), shr_snoc, natCast_natAbs]; rfl
    rintro σ Hd ⟨rfl, x10', rfl⟩
    have eSl : (S.map fun x => V.int x.1.2).length = (S.map (·.1)).length := by simp
    rw [eSl, List.take_length]
    have hSS : shS S < 2 ^ 13400 := by have := sh (S.map (·.1)).length; rwa [List.take_length] at this
    have eshS : shr (S.map (·.1)) = shS S := rfl
    rw [eshS]
    -- the factors
    have sA : SqL K Hd p1 (S.map fun x => V.int x.1.1) := SqL.of g1
    refine ⟨_, rfl, _, rfl, p1, p2, _, _, rfl, sA, sB, fun L nL => ?_⟩
    refine lc_out (walk_zipK (t := false) (u := false) (n := S.length) (by simp)) (fun i He => Grow Hd L (((facS S).take i).map V.int) He) (Grow.start nL) (fun i He _ g => ⟨SqL.same sA g.s, SqL.same sB g.s⟩) ?_ ?_
    · rintro i x He0 He hi g ⟨T, u1, u2, rfl, hT0, rfl, e1, e2⟩
      have eS : S[i]? = some S[i] := List.getElem?_eq_getElem hi
      replace e1 : (S.map fun x => V.int x.1.1)[i]? = some u1 := e1
      replace e2 : (S.map fun x => V.int x.1.2)[i]? = some u2 := e2
      rw [List.getElem?_map, eS] at e1 e2
      cases e1
      cases e2
      have hpT := hO.pos _ (hsel _ (List.getElem_mem hi)).1
      have sT := same_new (o := .tup [V.int (S[i]).1.1, V.int (S[i]).1.2]) hT0
      have g2 := g.same sT
      refine ⟨T, _, rfl, SqT.of upd_same, rfl, _, _, rfl, _, _, rfl, rfl, rfl, ?_⟩
      have cd : CDivW ((shS S : Nat) : Int) (S[i]).1.2 := wide_div hpT.1 (b := 9000) hpT.2.1 (by decide) (by decide)
      have hle : (((shS S : Nat) : Int) / (S[i]).1.2).natAbs < 2 ^ 13400 := Nat.lt_of_le_of_lt (Int.natAbs_ediv_le_natAbs _ _) (by rw [natCast_natAbs]; exact hSS)
      refine ⟨_, rfl, _, rfl, _, rfl, _, _, rfl, rfl, cd, _, _, rfl, rfl, wide_mul (a := 9000) (b := 13400) hpT.2.2 hle (by decide) (by decide) (by decide), _, g2.d, small1000 (by simp [facS]; omega), ?_⟩
      have := g2.step nL (V.int ((S[i]).1.1 * (((shS S : Nat) : Int) / (S[i]).1.2)))
      rw [take_snoc' (facS S) i ((S[i]).1.1 * (((shS S : Nat) : Int) / (S[i]).1.2)) (by unfold facS; rw [List.getElem?_map, eS]; rfl), List.map_append]
      exact this
    rintro He gF
    rw [List.take_of_length_le (by rw [facS_len]; exact Nat.le_refl _)] at gF
    have sce := sc.trans gF.s
    have hDe := sce _ _ hD
    have g3e := gF.s _ _ g3
    have sF : SqL K He L ((facS S).map V.int) := SqL.of gF.d
    refine ⟨_, rfl, _, rfl, D, .ref tp, rfl, .inl ⟨kvs, Sum.inl (place : Int), .inl hDe, rfl, evp.symm⟩, tp, _, rfl, same_tup sce htp, rfl, _, _, rfl, _, _, rfl, rfl, ?_⟩
    have hWp := hO.wide place (.inr rfl)
    have hcpe := hcp.same sce
    refine ⟨_, rfl, cp, _, rfl, hcpe, ?_⟩
    refine for_it (walk_enumK (t := ttp) (xs := (J place).map V.int)) (fun i σ Hf => Same He Hf ∧ (∀ j, j < i → totS S J j = at0 (J place) j * ((shS S : Nat) : Int)) ∧ ∃ x9 x10 x15 x16 x17 : Option V, σ = [some (.ref b), some (.ref a), some (.int (place : Int)), some (.ref D), some (.ref p1), some (.ref p2), some (.ref p3), x7, x8, x9, x10, some (.int ((shS S : Nat) : Int)), some (.ref L), some (.ref cp), some (.int 1), x15, x16, x17, none, none])
      ⟨Same.refl _, fun j hj => by omega, _, _, none, none, none, rfl⟩ (fun i σ Hf _ h => hcpe.same h.1) ?_ ?_
    · rintro i x σ Hf0 Hf hi ⟨sf, hall, y9, y10, y15, y16, y17, rfl⟩ ⟨T, u1, u2, rfl, hT0, rfl, e1, e2⟩
      cases e1
      replace e2 : ((J place).map V.int)[i]? = some u2 := e2
      rw [List.length_map] at hi
      have eJ : (J place)[i]? = some (J place)[i] := List.getElem?_eq_getElem hi
      rw [List.getElem?_map, eJ] at e2
      cases e2
      have hiW : i < W := by have := hWp.1; omega
      have sT := same_new (o := .tup [V.int (i : Nat), V.int (J place)[i]]) hT0
      have sf2 := sf.trans sT
      refine ⟨T, _, rfl, SqT.of upd_same, rfl, _, _, rfl, _, _, rfl, rfl, ?_⟩
      generalize (upd Hf0 T (.tup [V.int (i : Nat), V.int (J place)[i]])) = Hf at *
      have sL3 : SqL K Hf p3 (cols.map V.ref) := SqL.of (sf2 _ _ g3e)
      have sF2 := SqL.same sF sf2
      refine ⟨_, rfl, _, rfl, L, p3, _, _, rfl, sF2, sL3, fun M nM => ?_⟩
      refine lc_out (walk_zipK (t := false) (u := false) (n := S.length) (by rw [List.length_map, List.length_map, facS_len, hcl]; omega)) (fun j Hg => Grow Hf M (((List.zipWith (fun f x => f * at0 (J x.2) i) (facS S) S).take j).map V.int) Hg) (Grow.start nM) (fun j Hg _ g => ⟨SqL.same sF2 g.s, SqL.same sL3 g.s⟩) ?_ ?_
      · rintro j x Hg0 Hg hj g ⟨T2, u3, u4, rfl, hT2, rfl, e3, e4⟩
        replace e3 : ((facS S).map V.int)[j]? = some u3 := e3
        replace e4 : (cols.map V.ref)[j]? = some u4 := e4
        have hjf : j < (facS S).length := by rw [facS_len]; exact hj
        have eS : S[j]? = some S[j] := List.getElem?_eq_getElem hj
        have ef : (facS S)[j]? = some (facS S)[j] := List.getElem?_eq_getElem hjf
        have ec : cols[j]? = some (cols[j]'(by omega)) := List.getElem?_eq_getElem (by omega)
        rw [List.getElem?_map, ef] at e3
        rw [List.getElem?_map, ec] at e4
        cases e3
        cases e4
        obtain ⟨tt, hcol⟩ := hcs j _ _ ec eS
        have hxm := hsel _ (List.getElem_mem hj)
        have hW2 := hO.wide _ (.inl hxm.2)
        have hpT := hO.pos _ hxm.1
        have sT2 := same_new (o := .tup [V.int (facS S)[j], V.ref (cols[j]'(by omega))]) hT2
        have g2 := g.same sT2
        have hcolG := hcol.same (((sce.trans sf2).trans g.s).trans sT2)
        refine ⟨T2, _, rfl, SqT.of upd_same, rfl, _, _, rfl, _, _, rfl, rfl, rfl, ?_⟩
        have hiJ : i < (J (S[j]).2).length := by have := hW2.1; omega
        have eat : atI ((J (S[j]).2).map V.int) (i : Int) = some (V.int (at0 (J (S[j]).2) i)) := atI_nat (by rw [List.getElem?_map, List.getElem?_eq_getElem hiJ, L2.Elim.at0_lt hiJ]; rfl)
        have hfv : (facS S)[j].natAbs < 2 ^ (9000 + 13400) := by
          have e : (facS S)[j] = (S[j]).1.1 * (((shS S : Nat) : Int) / (S[j]).1.2) := by simp [facS]
          rw [e]
          exact wide_lt hpT.2.2 (Nat.lt_of_le_of_lt (Int.natAbs_ediv_le_natAbs _ _) (by rw [natCast_natAbs]; exact hSS))
        have hcv : (at0 (J (S[j]).2) i).natAbs < 2 ^ m := by rw [L2.Elim.at0_lt hiJ]; exact hW2.2 _ (List.getElem_mem hiJ)
        refine ⟨_, rfl, _, rfl, _, rfl, hcolG.ix eat ⟨_, _, rfl, rfl, wide_mul hfv hcv (by decide) hO.m0 (by have := hO.mm; omega), _, g2.d, small1000 (by rw [List.length_map, List.length_take]; omega), ?_⟩⟩
        have := g2.step nM (V.int ((facS S)[j] * at0 (J (S[j]).2) i))
        rw [take_snoc' (List.zipWith (fun f x => f * at0 (J x.2) i) (facS S) S) j ((facS S)[j] * at0 (J (S[j]).2) i) (by rw [List.getElem?_zipWith, ef, eS]), List.map_append]
        exact this
      · intro Hg g
        rw [List.take_of_length_le (by rw [List.length_zipWith, facS_len]; omega)] at g
        refine ⟨M, _, rfl, SqL.of g.d, ?_⟩
        have htot : (totS S J i).natAbs < 2 ^ (10 + (9000 + 13400 + m)) := by
          have key : ∀ (l : List Int) (q : Nat), (∀ z, z ∈ l → z.natAbs < 2 ^ q) → l.length < 2 ^ 10 → l.sum.natAbs < 2 ^ (10 + q) := by
            intro l q hl hl10
            have : ∀ l : List Int, (∀ z, z ∈ l → z.natAbs < 2 ^ q) → l.sum.natAbs ≤ l.length * 2 ^ q := by
              intro l
              induction l with
              | nil => intro _; simp
              | cons z l ih =>
                intro hz
                have h1 := ih fun y hy => hz y (by simp [hy])
                have h2 := hz z (by simp)
                rw [List.sum_cons, List.length_cons, Nat.succ_mul]
                have := Int.natAbs_add_le z l.sum
                omega
            have h3 := this l hl
            rw [Nat.pow_add]
            exact Nat.lt_of_le_of_lt h3 (Nat.mul_lt_mul_of_pos_right hl10 (Nat.pow_pos (by decide)))
          refine key _ _ (fun z hz => ?_) (by
            have e10 : (2 : Nat) ^ 10 = 1024 := by decide
            rw [List.length_zipWith, facS_len]; omega)
          obtain ⟨j, hj, rfl⟩ := List.getElem_of_mem hz
          have hjS : j < S.length := by rw [List.length_zipWith, facS_len] at hj; omega
          have hjf : j < (facS S).length := by rw [facS_len]; exact hjS
          rw [List.getElem_zipWith]
          have hxm := hsel _ (List.getElem_mem hjS)
          have hW2 := hO.wide _ (.inl hxm.2)
          have hpT := hO.pos _ hxm.1
          have hiJ : i < (J (S[j]).2).length := by have := hW2.1; omega
          refine wide_lt ?_ (by rw [L2.Elim.at0_lt hiJ]; exact hW2.2 _ (List.getElem_mem hiJ))
          have e : (facS S)[j] = (S[j]).1.1 * (((shS S : Nat) : Int) / (S[j]).1.2) := by simp [facS]
          rw [e]
          exact wide_lt hpT.2.2 (Nat.lt_of_le_of_lt (Int.natAbs_ediv_le_natAbs _ _) (by rw [natCast_natAbs]; exact hSS))
        have hm := hO.mm
        have hm0 := hO.m0
        refine ⟨_, rfl, _, rfl, _, _, rfl, rfl, wide_mul (b := 1) htot (by decide) (by omega) (by decide) (by omega), _, rfl, _, rfl, _, _, rfl, rfl, wide_mul (a := m) (b := 13400) (hWp.2 _ (List.getElem_mem hi)) (by rw [natCast_natAbs]; exact hSS) hm0 (by decide) (by omega), rfl, _, rfl, ?_⟩
        have etot : (List.zipWith (fun f x => f * at0 (J x.2) i) (facS S) S).sum * 1 = totS S J i := by rw [Int.mul_one]; rfl
        have ewo : (J place)[i] = at0 (J place) i := (L2.Elim.at0_lt hi).symm
        by_cases hq : totS S J i = at0 (J place) i * ((shS S : Nat) : Int)
        · refine iteF' (by
            show (!decide (V.int ((List.zipWith (fun f x => f * at0 (J x.2) i) (facS S) S).sum * 1) = V.int ((J place)[i] * ((shS S : Nat) : Int)))) = false
            rw [etot, ewo, hq]; simp) ⟨sf2.trans g.s, fun j hj => ?_, _, _, _, _, _, rfl⟩
          by_cases hji : j < i
          · exact hall j hji
          · have : j = i := by omega
            subst this; exact hq
        · refine iteT' (by
            show (!decide (V.int ((List.zipWith (fun f x => f * at0 (J x.2) i) (facS S) S).sum * 1) = V.int ((J place)[i] * ((shS S : Nat) : Int)))) = true
            rw [etot, ewo]; simpa using hq) ?_
          exact k false ⟨(fun z => by cases z), fun z => absurd (eRB.1 z i hiW) hq⟩ _ ((sce.trans sf2).trans g.s)
    · rintro σ Hf ⟨sf, hall, y9, y10, y15, y16, y17, rfl⟩
      rw [List.length_map] at hall
      exact k true ⟨fun _ => eRB.2 fun j hj => hall j (by have := hWp.1; omega), fun _ => rfl⟩ _ (sce.trans sf)
end
end L2.EH
end S_T13
section S_T14
set_option exponentiation.threshold 20000
set_option maxRecDepth 100000
set_option maxHeartbeats 4000000
namespace L2.EH
open PySem PySem.Spec PyProof.Rows StX
/-! ### what a certificate says -/
def natsI (zs : List Nat) : List Int := zs.map fun (z : Nat) => (z : Int)
theorem natsV_I (zs : List Nat) : (natsI zs).map V.int = natsV zs := by unfold natsI natsV; rw [List.map_map]; rfl
theorem natsI_inj {a b : List Nat} (h : natsI a = natsI b) : a = b := by
  have := congrArg (List.map Int.toNat) h
  unfold natsI at this
  rw [List.map_map, List.map_map] at this
  have e : (Int.toNat ∘ fun (z : Nat) => (z : Int)) = id := funext fun z => Int.toNat_natCast z
  rwa [e, List.map_id, List.map_id] at this
theorem asc_nats : ∀ (ns : List Int) (lo : Int), -1 ≤ lo → AscInts lo ns → ∃ zs, ns = natsI zs
  | [], lo, _, _ => ⟨[], rfl⟩
  | n :: ns, lo, h, ha => by
    obtain ⟨zs, e⟩ := asc_nats ns n (by have := ha.1; omega) ha.2
    have := ha.1
    exact ⟨n.toNat :: zs, by rw [e]; show n :: _ = ((n.toNat : Nat) : Int) :: _; rw [show ((n.toNat : Nat) : Int) = n by omega]; rfl⟩
/-- what is known of one row -/
def RowFact (ns : List Int) (place : Int) (eo : Option Int) (o : Option Frow) : Prop := match o with
  | none => ∃ e, eo = some e ∧ e ≤ place
  | some ps => ps.all fracOk = true ∧ ps.length = ns.length ∧ ∀ x, x ∈ List.zip ns ps → x.1 ≤ place ∨ x.2 = (0, 1)
theorem rowOf?_some {ns : List Int} {place : Int} {eo : Option Int} {d : Th} {o : Option Frow} (h : rowOf? ns place eo d = some o) : d = optT o ∧ RowFact ns place eo o := by
  unfold rowOf? at h
  split at h
  · split at h
    · cases h
    · rename_i e
      split at h
      · cases h
        exact ⟨rfl, e, rfl, by assumption⟩
      · cases h
  · split at h
    · rename_i ps hps
      split at h
      · rename_i hall
        cases h
        obtain ⟨e1, e2, e3⟩ := frow?_some hps
        refine ⟨e1, e2, by omega, fun x hx => ?_⟩
        have := List.all_eq_true.mp hall x hx
        simpa using this
      · cases h
    · cases h
theorem rowOf?_of {ns : List Int} {place : Int} {eo : Option Int} {o : Option Frow} (h : RowFact ns place eo o) : rowOf? ns place eo (optT o) = some o := by
  cases o with
  | none =>
    obtain ⟨e, rfl, h⟩ := h
    show (if e ≤ place then some (none : Option Frow) else none) = _
    rw [if_pos h]
  | some ps =>
    obtain ⟨h1, h2, h3⟩ := h
    show (match (prowT ps).frow? ns.length with | some ps => if ((List.zip ns ps).all fun x => decide (x.1 ≤ place) || decide (x.2 = (0, 1))) = true then some (some ps) else none | none => none) = _
    rw [frow?_of h1 (by omega)]
    dsimp only
    rw [if_pos]
    refine List.all_eq_true.mpr fun x hx => ?_
    simpa using h3 x hx
def PairFact (ns : List Int) (eo : Option Int) (n : Int) (p : Fpair) : Prop := RowFact ns (2 * n) eo p.1 ∧ RowFact ns (2 * n + 1) eo p.2
theorem pairOf?_some {ns : List Int} {eo : Option Int} {n : Int} {d : Th} {p : Fpair} (h : pairOf? ns eo n d = some p) : d = dupT p ∧ PairFact ns eo n p := by
  unfold pairOf? at h
  split at h
  · split at h
    · rename_i a b h1 h2
      cases h
      obtain ⟨e1, f1⟩ := rowOf?_some h1
      obtain ⟨e2, f2⟩ := rowOf?_some h2
      exact ⟨by rw [e1, e2]; rfl, f1, f2⟩
    · cases h
  · cases h
theorem pairOf?_of {ns : List Int} {eo : Option Int} {n : Int} {p : Fpair} (h : PairFact ns eo n p) : pairOf? ns eo n (dupT p) = some p := by
  show (match rowOf? ns (2 * n) eo (optT p.1), rowOf? ns (2 * n + 1) eo (optT p.2) with | some a, some b => some (a, b) | _, _ => none) = _
  rw [rowOf?_of h.1, rowOf?_of h.2]
theorem pairsOf?_some {ns : List Int} {eo : Option Int} : ∀ {l : List Int} {ds : List Th} {rs : List Fpair}, pairsOf? ns eo l ds = some rs → ds = rs.map dupT ∧ rs.length = l.length ∧ ∀ (i : Nat) n p, l[i]? = some n → rs[i]? = some p → PairFact ns eo n p
  | [], [], rs, h => by cases h; exact ⟨rfl, rfl, fun i n p h => by simp at h⟩
  | n :: l, d :: ds, rs, h => by
    unfold pairsOf? at h
    split at h
    · rename_i a b h1 h2
      cases h
      obtain ⟨e1, f1⟩ := pairOf?_some h1
      obtain ⟨e2, e3, f2⟩ := pairsOf?_some h2
      refine ⟨by rw [e1, e2]; rfl, by simp [e3], fun i m p q1 q2 => ?_⟩
      cases i with
      | zero => cases q1; cases q2; exact f1
      | succ i => exact f2 i m p (by simpa using q1) (by simpa using q2)
    · cases h
  | [], _ :: _, _, h => by cases h
  | _ :: _, [], _, h => by cases h
theorem pairsOf?_of {ns : List Int} {eo : Option Int} : ∀ {l : List Int} {rs : List Fpair}, rs.length = l.length → (∀ (i : Nat) n p, l[i]? = some n → rs[i]? = some p → PairFact ns eo n p) → pairsOf? ns eo l (rs.map dupT) = some rs
  | [], [], _, _ => rfl
  | n :: l, p :: rs, h, hf => by
    have h1 := pairOf?_of (hf 0 n p rfl rfl)
    have h2 := pairsOf?_of (ns := ns) (eo := eo) (l := l) (rs := rs) (by simpa using h) fun i m q e1 e2 => hf (i + 1) m q (by simpa using e1) (by simpa using e2)
    show (match pairOf? ns eo n (dupT p), pairsOf? ns eo l (rs.map dupT) with | some a, some b => some (a :: b) | _, _ => none) = _
    rw [h1, h2]
  | [], _ :: _, h, _ => by simp at h
  | _ :: _, [], h, _ => by simp at h
structure CertFact (eo : Option Int) (zs : List Nat) (rs : List Fpair) : Prop where
  asc : AscInts (-1) (natsI zs)
  few : zs.length ≤ 200
  len : rs.length = zs.length
  row : ∀ (i n : Nat) p, zs[i]? = some n → rs[i]? = some p → PairFact (natsI zs) eo n p
def certN (zs : List Nat) (rs : List Fpair) : Th := .tup [rowT (natsI zs), rowsT rs]
theorem cert?_some {eo : Option Int} {d : Th} {c : Cert} (h : d.cert? eo = some c) : ∃ zs, c.ns = natsI zs ∧ d = certN zs c.rows ∧ CertFact eo zs c.rows := by
  unfold Th.cert? at h
  split at h
  · rename_i nT rT
    split at h
    · rename_i hl
      unfold certOf at h
      split at h
      · rename_i ns ds h1
        split at h
        · rename_i h2
          cases h3 : pairsOf? ns eo ns ds with
          | none => rw [h3] at h; cases h
          | some rs =>
            rw [h3] at h
            cases h
            obtain ⟨ns', e1, ha⟩ := (ascT_iff nT (-1)).1 h2.1
            have e2 := ints?_some h1
            have e3 : ns' = ns := by
              have := e1.symm.trans e2
              have h4 := congrArg ints? this
              rw [ints?_of, ints?_of] at h4
              exact Option.some.inj h4
            subst e3
            obtain ⟨zs, rfl⟩ := asc_nats ns' (-1) (Int.le_refl _) ha
            obtain ⟨e5, e6, e7⟩ := pairsOf?_some h3
            have hzl : (natsI zs).length = zs.length := by simp [natsI]
            refine ⟨zs, rfl, by rw [e2, e5]; rfl, ha, by rw [e2] at hl; simpa [natsI] using hl, by rw [e6, hzl], fun i n p q1 q2 => e7 i n p ?_ q2⟩
            unfold natsI
            rw [List.getElem?_map, q1]; rfl
        · cases h
      · cases h
    · cases h
  · cases h
theorem ascT_of : ∀ (ns : List Int) (lo : Int), AscInts lo ns → ascT lo (ns.map intT) = true := fun ns lo h => (ascT_iff _ _).2 ⟨ns, rfl, h⟩
theorem cert?_of {eo : Option Int} {zs : List Nat} {rs : List Fpair} (h : CertFact eo zs rs) : (certN zs rs).cert? eo = some ⟨natsI zs, rs⟩ := by
  have hzl : (natsI zs).length = zs.length := by simp [natsI]
  show (if ((natsI zs).map intT).length ≤ 200 then certOf eo ((natsI zs).map intT) (rowsT rs) else none) = _
  rw [if_pos (by rw [List.length_map, hzl]; exact h.few)]
  unfold certOf
  rw [ints?_of]
  show (if ascT (-1) ((natsI zs).map intT) = true ∧ (rs.map dupT).length = ((natsI zs).map intT).length then (pairsOf? (natsI zs) eo (natsI zs) (rs.map dupT)).map fun rs => (⟨natsI zs, rs⟩ : Cert) else none) = _
  rw [if_pos ⟨ascT_of _ _ h.asc, by rw [List.length_map, List.length_map, hzl, h.len]⟩, pairsOf?_of (by rw [h.len, hzl]) fun i n p q1 q2 => ?_]
  · rfl
  · unfold natsI at q1
    rw [List.getElem?_map] at q1
    cases e : zs[i]? with
    | none => rw [e] at q1; cases q1
    | some z =>
      rw [e] at q1
      cases q1
      exact h.row i z p e q2
/-! ### spans of rules -/
def JR (R : Plain) (z : Nat) : List Int := (valQ R z).1
def RulesAt (K : PySem.W.Frag) (C : Addr) (H : Hp) (L : Addr) (Rs : List Plain) : Prop := ∃ xs : List Addr, SqL K H L (xs.map V.ref) ∧ xs.length = Rs.length ∧ ∀ (i : Nat) x R, xs[i]? = some x → Rs[i]? = some R → RuleAt K C H x R
theorem RulesAt.same {K : PySem.W.Frag} {C : Addr} {H H' : Hp} {L : Addr} {Rs : List Plain} (s : Same H H') (h : RulesAt K C H L Rs) : RulesAt K C H' L Rs := by
  obtain ⟨xs, h1, h2, h3⟩ := h
  exact ⟨xs, s.seq h1, h2, fun i x R e1 e2 => (h3 i x R e1 e2).same s⟩
structure SpanPre (R : Plain) (zs : List Nat) (rs : List Fpair) (m : Nat) : Prop where
  steps : ∀ z, Asked zs rs z → z < 2 ^ 1100 ∧ Steps R z m
  int : ∀ z, Asked zs rs z → (valQ R z).2 = 1
  right : ∀ (i n : Nat) p, zs[i]? = some n → rs[i]? = some p → (∀ ps, p.1 = some ps → RightOk ps zs (JR R) (2 * n) R.firsts.length m) ∧ (∀ ps, p.2 = some ps → RightOk ps zs (JR R) (2 * n + 1) R.firsts.length m)
def RowsRight (R : Plain) (zs : List Nat) (n : Nat) (p : Fpair) : Prop := (∀ ps, p.1 = some ps → RightB ps zs (JR R) (2 * n) R.firsts.length) ∧ (∀ ps, p.2 = some ps → RightB ps zs (JR R) (2 * n + 1) R.firsts.length)
structure SpanOk (eo : Option Int) (Rs : List Plain) (zs : List Nat) (rs : List Fpair) : Prop where
  zero : zs.take 1 = [0] ∨ eo = some 0 ∨ ∀ R, R ∈ Rs → ∀ z, z ∈ R.firsts → z = 0
  row : ∀ (i n : Nat) p, zs[i]? = some n → rs[i]? = some p → ∀ R, R ∈ Rs → RowsRight R zs n p
def TablesAt (K : PySem.W.Frag) (H : Hp) (T : Addr) (Rs : List Plain) (zs : List Nat) (rs : List Fpair) : Prop := ∃ ds : List Addr, H T = some (.lst (ds.map V.ref)) ∧ ds.length = Rs.length ∧ ∀ (i : Nat) d R, ds[i]? = some d → Rs[i]? = some R → ∃ kvs, H d = some (.dK kvs) ∧ TabAt K H kvs (JR R) (Asked zs rs)
theorem TabAt.same {K : PySem.W.Frag} {H H' : Hp} {kvs : List (Key × V)} {J : Nat → List Int} {S : Nat → Prop} (s : Same H H') (h : TabAt K H kvs J S) : TabAt K H' kvs J S := fun n hn => by
  obtain ⟨v, e, hv⟩ := h n hn
  exact ⟨v, e, hv.same s⟩
end L2.EH
end S_T14
section S_L12
set_option exponentiation.threshold 20000
set_option maxRecDepth 100000
set_option maxHeartbeats 4000000
namespace L2.EH
open PySem PySem.Spec PyProof.Rows StX
open L2.Elim (at0 thin gcdRow clr1 cleared comb KO aimRow factorsOf frac zeroTo keptRow headOf keptWith Search beyond Settled kids)
theorem nodup_few : ∀ (W : Nat) (l : List Nat), l.Nodup → (∀ x, x ∈ l → x < W) → l.length ≤ W
  | 0, l, _, h => by
    cases l with
    | nil => exact Nat.le_refl _
    | cons x l => have := h x (by simp); omega
  | W + 1, l, hn, h => by
    by_cases hw : W ∈ l
    · have h1 := nodup_few W (l.erase W) (hn.erase W) fun x hx => by
        have h2 := (List.Nodup.mem_erase_iff hn).1 hx
        have := h x h2.2
        have := h2.1
        omega
      have h3 := List.length_erase_of_mem hw
      have h4 := List.length_pos_of_mem hw
      omega
    · have h1 := nodup_few W l hn fun x hx => by
        have := h x hx
        have : x ≠ W := fun e => hw (e ▸ hx)
        omega
      omega
theorem KO.full {W R : Nat} {us : List (List Int)} {ks : Kept2} (h : KO W R us ks) (hW : us.length = W) {aim : List Int} (ha : aim.length = W) : L2.Halves.Span (· ∈ us.map L2.Elim.vec) (L2.Elim.vec aim) := by
  refine (h.zero_iff (by omega) ha).1 fun j hj => ?_
  have hc := h.cl (by omega) ha
  have hp := h.places (by omega)
  have hl := h.len
  have : j ∈ ks.map (·.1) := Classical.byContradiction fun hn => by
    have h1 := nodup_few W (j :: ks.map (·.1)) (List.nodup_cons.2 ⟨hn, hp⟩) fun x hx => by
      rcases List.mem_cons.1 hx with e | e
      · rw [e]; exact hj
      · obtain ⟨q, hq, rfl⟩ := List.mem_map.1 e
        exact (h.rows (by omega) q hq).lt
    simp at h1
    omega
  obtain ⟨q, hq, rfl⟩ := List.mem_map.1 this
  exact hc.at_ q hq
/-- what the search runs on -/
structure Runs (Ls : List LR) (lim : Option Nat) (W R D : Nat) : Prop where
  lrb : ∀ L, L ∈ Ls → ∃ n b, LRB L n b ∧ b ≤ 100
  wide : ∀ z, (jointAt Ls z).length = W
  W4 : W ≤ 400
  R0 : 0 < R
  few : ∀ found ks waiting, Search (jointAt Ls) W R lim found ks waiting → found.length ≤ D
  small : ∀ z, z < 2 ^ D → ∀ y, y ∈ jointAt Ls z → y.natAbs < 2 ^ R
  fit : 2 ^ D * (R + 1) ≤ 9000
theorem jointAt_part (Ls : List LR) (i z : Nat) : (jointAt (Ls.take i) z).length ≤ (jointAt Ls z).length := by
  have : jointAt Ls z = jointAt (Ls.take i) z ++ jointAt (Ls.drop i) z := by
    unfold jointAt
    rw [← List.flatten_append, ← List.map_append, List.take_append_drop]
  rw [this, List.length_append]
  omega
variable {Ls : List LR} {lim : Option Nat} {W R D : Nat}
theorem Runs.D13 (h : Runs Ls lim W R D) : D ≤ 13 := by
  rcases Nat.lt_or_ge 13 D with q | q
  · exfalso
    have h1 : 2 ^ 14 ≤ 2 ^ D := Nat.pow_le_pow_right (by decide) q
    have h2 := h.fit
    have h3 : 2 ^ D * 1 ≤ 2 ^ D * (R + 1) := Nat.mul_le_mul_left _ (by omega)
    have h4 : (2 : Nat) ^ 14 = 16384 := by decide
    omega
  · exact q
theorem Runs.fits (h : Runs Ls lim W R D) {found : List Nat} {ks : Kept2} {wt : List Nat} (S : Search (jointAt Ls) W R lim found ks wt) : 2 ^ ks.length * (R + 1) ≤ 9000 := by
  have h1 := h.few _ _ _ S
  have h2 := S.ko.len
  rw [List.length_map] at h2
  refine Nat.le_trans (Nat.mul_le_mul_right _ (Nat.pow_le_pow_right (by decide) (by omega : ks.length ≤ D))) h.fit
theorem Runs.low (h : Runs Ls lim W R D) {found : List Nat} {ks : Kept2} {wt : List Nat} (S : Search (jointAt Ls) W R lim found ks wt) {z : Nat} (hz : z < 2 ^ found.length) : z < 2 ^ D ∧ z < 2 ^ 1100 := by
  have h1 := h.few _ _ _ S
  have h2 := h.D13
  have h3 : 2 ^ found.length ≤ 2 ^ D := Nat.pow_le_pow_right (by decide) h1
  have h4 : 2 ^ D ≤ 2 ^ 1100 := Nat.pow_le_pow_right (by decide) (by omega)
  exact ⟨by omega, Nat.lt_of_lt_of_le (by omega) h4⟩
theorem foundW {J : Nat → List Int} (S : KO W R us ks) (hl : us.length ≤ W) {aim : List Int} (ha : aim.length = W) (hn : ¬ L2.Halves.Span (· ∈ us.map L2.Elim.vec) (L2.Elim.vec aim)) : us.length < W := by
  rcases Nat.lt_or_ge us.length W with q | q
  · exact q
  · exact absurd (KO.full S (by omega) ha) hn
/-- the fractions at a place -/
def halfAt (Ls : List LR) (lim : Option Nat) (W : Nat) (ks : Kept2) (p : Nat) : Option (List (Int × Int)) := if beyond lim p then none else factorsOf W ks (jointAt Ls p)
def pairsOf (Ls : List LR) (lim : Option Nat) (W : Nat) (ks : Kept2) (found : List Nat) : List (Option (List (Int × Int)) × Option (List (Int × Int))) := found.map fun f => (halfAt Ls lim W ks (2 * f), halfAt Ls lim W ks (2 * f + 1))
def dupD (p : Option (List (Int × Int)) × Option (List (Int × Int))) : PyData := .tuple [optD p.1, optD p.2]
def paperD (ns : List Nat) (ps : List (Option (List (Int × Int)) × Option (List (Int × Int)))) : PyData := .tuple [rowD (natsI ns), .tuple (ps.map dupD)]
theorem dupD_tup (p : Option (List (Int × Int)) × Option (List (Int × Int))) : tupOnly (dupD p) = true := by
  simp [dupD, tupOnly, tupsOnly, optD_tup]
def LimAt (v : V) (lim : Option Nat) : Prop := v = (match lim with | none => V.non | some l => V.int (l : Int))
end L2.EH
end S_L12
section S_L13
set_option exponentiation.threshold 20000
set_option maxRecDepth 100000
set_option maxHeartbeats 4000000
namespace L2.EH
open PySem PySem.Spec PyProof.Rows StX
open L2.Elim (at0 thin gcdRow clr1 cleared comb KO aimRow factorsOf frac zeroTo keptRow headOf keptWith Search beyond Settled kids)
theorem KO.le {W R : Nat} {vs : List (List Int)} {ks : Kept2} (h : KO W R vs ks) : vs.length ≤ W := by
  cases h with
  | nil => exact Nat.zero_le _
  | @snoc vs ks v p r h hv hr hp hn ht hz hrel hc hc0 hbo =>
    have h1 : W + vs.length < 2 * W + 1 := by
      rcases Nat.lt_or_ge (W + vs.length) (2 * W + 1) with q | q
      · exact q
      · exact absurd (L2.Elim.at0_ge (r := r) (by omega)) hc
    have h2 : W + vs.length ≠ 2 * W := fun e => hc (by rw [e]; exact ht)
    simp
    omega
def lenAt (σ : L2.St) (H : Hp) (i : Nat) : Nat := match σ[i]? with
  | some (some (V.ref a)) => match H a with
    | some (.lst xs) => xs.length
    | _ => 0
  | _ => 0
theorem KeptL.upd {K : PySem.W.Frag} {H : Hp} {k fd : Addr} {ks : Kept2} {fnd : List Nat} {ys : List V} (h : KeptL K H k ks) (hf : H fd = some (.lst (natsV fnd))) (hk : k ≠ fd) (hl : ∀ q, q ∈ ks → fnd.length < q.2.length) : KeptL K (upd H fd (.lst ys)) k ks := by
  obtain ⟨xs, h1, h2, h3⟩ := h
  refine ⟨xs, by rw [upd_ne hk]; exact h1, h2, fun i x q e1 e2 => ?_⟩
  obtain ⟨c, a, b⟩ := h3 i x q e1 e2
  have hq := hl q (List.mem_of_getElem? e2)
  refine ⟨c, tup_keepT (keepT_upd hf rfl) a, ?_⟩
  have hc : ∀ xs, H c = some (.lst xs) → xs.length = q.2.length → c ≠ fd := fun xs h1 h2 e => by
    rw [e, hf] at h1
    cases h1
    unfold natsV at h2
    rw [List.length_map] at h2
    omega
  rcases b with (h | ⟨o, h⟩) | h
  · exact .inl (.inl (by rw [upd_ne (hc _ h (by simp))]; exact h))
  · exact .inl (.inr ⟨o, by rw [upd_ne (fun e => by rw [e, hf] at h; cases h)]; exact h⟩)
  · exact .inr h
theorem lt_lim {lim : Option Nat} {l : Nat} (e : lim = some l) (p : Nat) : beyond lim p ↔ ¬ p < l := by
  subst e
  exact ⟨fun ⟨l', h1, h2⟩ => by cases h1; omega, fun h => ⟨l, rfl, by omega⟩⟩
theorem tOr_dec {σ : L2.St} {Hc : Hp} {Q : Bool → Hp → Prop} {tA tB : TT} {b b0 : Bool} (hA : ∀ Q : Bool → Hp → Prop, Q b0 Hc → tA σ Hc Q) (hB : b0 = false → ∀ Q : Bool → Hp → Prop, Q b Hc → tB σ Hc Q) (hb : b0 = true → b = true) (h : Q b Hc) : tOr tA tB σ Hc Q := by
  unfold tOr
  refine hA _ ?_
  cases b0 with
  | true => rw [hb rfl] at h; exact h
  | false => exact hB rfl _ h
theorem ifs_and_or {σ : L2.St} {Hc : Hp} {tA tB tC : TT} {ta tb : TS} {D : Ends} {b b0 : Bool} (hA : ∀ Q : Bool → Hp → Prop, Q b0 Hc → tA σ Hc Q) (hB : b0 = false → ∀ Q : Bool → Hp → Prop, Q b Hc → tB σ Hc Q) (hb : b0 = true → b = true)
    (h1 : b = true → tC σ Hc fun c H1 => if c = true then ta D σ H1 else tb D σ H1) (h2 : b = false → tb D σ Hc) : tIfS (tAnd (tOr tA tB) tC) ta tb D σ Hc := by
  unfold tIfS tAnd
  refine tOr_dec hA hB hb ?_
  cases b with
  | true => exact h1 rfl
  | false => exact h2 rfl
theorem ifs_or {σ : L2.St} {Hc : Hp} {tA tB : TT} {ta tb : TS} {D : Ends} {b b0 : Bool} (hA : ∀ Q : Bool → Hp → Prop, Q b0 Hc → tA σ Hc Q) (hB : b0 = false → ∀ Q : Bool → Hp → Prop, Q b Hc → tB σ Hc Q) (hb : b0 = true → b = true)
    (h1 : b = true → ta D σ Hc) (h2 : b = false → tb D σ Hc) : tIfS (tOr tA tB) ta tb D σ Hc := by
  unfold tIfS
  refine tOr_dec hA hB hb ?_
  cases b with
  | true => exact h1 rfl
  | false => exact h2 rfl
def kidsT (n i : Nat) : List Nat := ((List.range i).filter fun d => decide (0 < n + d)).map fun d => 2 * n + d
theorem kidsT_two (n : Nat) : kidsT n 2 = kids n := by
  unfold kidsT kids
  by_cases h : n = 0
  · subst h; rfl
  · rw [if_neg h, List.filter_eq_self.2 fun d _ => by simpa using (by omega : 0 < n + d)]; rfl
theorem kidsT_succ (n i : Nat) : kidsT n (i + 1) = kidsT n i ++ (if 0 < n + i then [2 * n + i] else []) := by
  unfold kidsT
  rw [List.range_succ, List.filter_append, List.map_append]
  by_cases h : 0 < n + i
  · rw [if_pos h, List.filter_cons_of_pos (by simpa using h)]; rfl
  · rw [if_neg h, List.filter_cons_of_neg (by simpa using h)]; rfl
theorem LimAt.dec {v : V} {lim : Option Nat} (h : LimAt v lim) (p : Nat) : (lim = none ∧ v = .non ∧ ¬ beyond lim p) ∨ ∃ l, lim = some l ∧ v = .int (l : Int) ∧ (beyond lim p ↔ ¬ p < l) := by
  cases lim with
  | none => exact .inl ⟨rfl, h, fun ⟨l, e, _⟩ => by cases e⟩
  | some l => exact .inr ⟨l, rfl, h, lt_lim rfl p⟩
theorem LimAt.non {v : V} {lim : Option Nat} (h : LimAt v lim) : decide (v = .non) = lim.isNone := by
  cases lim with
  | none => rw [show v = .non from h]; rfl
  | some l => rw [show v = .int (l : Int) from h]; rfl
theorem same_updF {H Hc : Hp} {a : Addr} {o : HO} (s : Same H Hc) (n : H a = none) : Same H (upd Hc a o) := fun b q e => by rw [upd_ne (ne_of_none e n)]; exact s _ _ e
theorem natsV_len (l : List Nat) : (natsV l).length = l.length := by simp [natsV]
theorem natsV_app (a b : List Nat) : natsV (a ++ b) = natsV a ++ natsV b := by simp [natsV]
end L2.EH
end S_L13
section S_T15
set_option exponentiation.threshold 20000
set_option maxRecDepth 100000
set_option maxHeartbeats 4000000
namespace L2.EH
open PySem PySem.Spec PyProof.Rows StX
def spValuesInSpan (K : PySem.W.Frag) (C : Addr) : Sp := fun vs H Q _ => ∃ (v w : V) (L : Addr) (d : Th) (eo : Option Int) (Rs : List Plain), vs = [v, .ref L, w] ∧ Td K H v d ∧ d.fits ∧ EndAt w eo ∧ RulesAt K C H L Rs ∧ Rs.length ≤ 6 ∧
  (∀ zs rs, d = certN zs rs → CertFact eo zs rs → ∃ m, ∀ R, R ∈ Rs → SpanPre R zs rs m) ∧
  (∀ zs rs, d = certN zs rs → CertFact eo zs rs → SpanOk eo Rs zs rs → ∀ H' T, Same H H' → H T = none → TablesAt K H' T Rs zs rs → Q (.ref T) H') ∧
  ((∀ zs rs, d = certN zs rs → CertFact eo zs rs → SpanOk eo Rs zs rs → False) → ∀ H', Same H H' → Q .non H')
abbrev nmSpan : List Str := ["value", "rules", "end", "numbers", "rows", "asked", "tables", "number", "pair", "digit", "row", "rule", "table"]
theorem scValuesInSpan : FnScope nmSpan ["value", "rules", "end"] (defScope sValuesInSpan) := ⟨rfl, rfl, rfl, by decide +kernel, rfl, by decide +kernel, by decide +kernel⟩
theorem certN_inj {zs zs' : List Nat} {rs rs' : List Fpair} (h : certN zs rs = certN zs' rs') : zs = zs' ∧ rs = rs' := by
  injection h with h
  injection h with h1 h2
  injection h2 with h2 _
  refine ⟨?_, ?_⟩
  · injection h1 with h1
    have := congrArg ints? h1
    rw [ints?_of, ints?_of] at this
    exact natsI_inj (Option.some.inj this)
  · injection h2 with h2
    have po : ∀ o o' : Option Frow, optT o = optT o' → o = o' := by
      intro o o' h
      have pp : ∀ a b : Frow, a.map pairT = b.map pairT → a = b := by
        intro a
        induction a with
        | nil => intro b h; cases b with
          | nil => rfl
          | cons _ _ => cases h
        | cons x a ih => intro b h; cases b with
          | nil => cases h
          | cons y b =>
            injection h with h1 h2
            rw [ih b h2]
            injection h1 with h1
            injection h1 with h3 h4
            injection h4 with h4 _
            injection h3 with h3
            injection h4 with h4
            rw [Prod.ext h3 h4]
      cases o <;> cases o'
      · rfl
      · cases h
      · cases h
      · rename_i a b
        injection h with h
        rw [pp a b h]
    have go : ∀ a b : List Fpair, a.map dupT = b.map dupT → a = b := by
      intro a
      induction a with
      | nil => intro b h; cases b with
        | nil => rfl
        | cons _ _ => cases h
      | cons x a ih => intro b h; cases b with
        | nil => cases h
        | cons y b =>
          injection h with h1 h2
          rw [ih b h2]
          injection h1 with h1
          injection h1 with h3 h4
          injection h4 with h4 _
          rw [Prod.ext (po _ _ h3) (po _ _ h4)]
    exact go rs rs' h2
section
variable {P : Program} {w : World} {K : PySem.W.Frag} {mg : Str → Option Value} {base : Heap}
theorem ok_valuesInSpan {C f fW fA fV fR zA : Addr} {fd fdW fdA fdV fdR : FuncData} (F : Fun K "values_in_span" "values_in_span" sValuesInSpan f fd) (B : BN mg) (T : PlainC K C)
    (FW : Fn' P w K mg base 5 "is_written_as_span" fW fdW ["value", "end"] (spIsWritten K)) (FA : Fn' P w K mg base 1 "asked_numbers" fA fdA ["numbers", "rows"] (spAskedNumbers K))
    (FV : Fn' P w K mg base 3 "values_at_all" fV fdV ["rule", "numbers"] (spValuesAtAll K C)) (FR : Fn' P w K mg base 1 "is_right" fR fdR ["row", "numbers", "place", "table"] (spIsRight K)) :
    FnOk P w K mg base CX0 6 f fd ["value", "rules", "end"] (spValuesInSpan K C) := by
  refine F.ok scValuesInSpan (fun vs H Q E h => ?_) (fun cdv A outer s H vs Q E hr h => ?_)
  · obtain ⟨v, w, L, d, eo, Rs, rfl, _⟩ := h
    rfl
  · obtain ⟨v, w, L, d, eo, Rs, rfl, hd, hf, he, hRs, hRl, hpre, hyes, hno⟩ := h
    have hu := hu_of hr
    have hu64 := hr.units
    have nd := scValuesInSpan.nd
    refine ⟨_, pss_cons (ps_if (pt_not (pt_val (pe_call FW.ok (by exact hr) (by rfl) FW.m FW.k FW.b .nil pass0 (pa_cons (pv 0) (pa_cons (pv 2) pa_nil))))) (pss_one (ps_ret pe_non)) pss_nil)
      (pss_cons (ps_asg (pv 0) (pg_tup rfl (pgs_cons (pg_name (i := 3) nd rfl (Or.inr rfl)) (pgs_cons (pg_name (i := 4) nd rfl (Or.inl rfl)) pgs_nil))))
      (C8.pss_cut (ps_if (PW.pt (pw_and (pt_cmpR (show OpR _ (compareOp .NotEq) (rNeD K) from op_neD (by exact hu64)) (pe_slice sl_tupN (pv 3) po_none (po_some pe_int)) (pe_tup (pa_cons pe_int pa_nil)) (by rfl))
          (pw_and (pt_cmpR op_ne (pv 2) pe_int (nomark _))
          (pw_and1 (pt_val (pe_callB (cr_any rfl) (by rfl) B.any (by decide +kernel) (pa_cons (pe_lc (own := [("rule", 11)]) (g := gName 11) (tt := tYes) rfl nd (pi_list (pv 1)) (blkOk_by (own := [("rule", 11)]) (N := nmSpan) (sc := defScope sValuesInSpan) (by decide +kernel)) (fun _ _ _ _ _ => pg_name (i := 11) nd rfl (Or.inl rfl) (Or.inr rfl)) (fun _ _ _ _ _ => pts_nil)
            (fun _ _ _ _ _ => pe_callB (show CallR _ (.builtin "any") (rAnyT K) from cr_anyT rfl) (by rfl) B.any (by decide +kernel) (pa_cons (show PE _ _ (tFld K (tVar 11) "starts") from pe_fld (pv 11) rfl) pa_nil))) pa_nil))))))) (pss_one (ps_ret pe_non)) pss_nil)
      (pss_cons (ps_set (i := 5) nd rfl (Or.inr rfl) (pe_call FA.ok (by exact hr.mono (by decide)) (by rfl) FA.m FA.k FA.b .nil pass0 (pa_cons (pv 3) (pa_cons (pv 4) pa_nil))))
      (pss_cons (ps_setLc (i := 6) (own := [("rule", 11)]) (g := gName 11) (tt := tYes) (by rfl) nd rfl rfl (sw_true rfl rfl rfl (by decide +kernel)) (pi_list (pv 1)) (blkOk_by (own := [("rule", 11)]) (N := nmSpan) (sc := defScope sValuesInSpan) (by decide +kernel)) (fun _ _ _ _ _ => pg_name (i := 11) nd rfl (Or.inl rfl) (Or.inr rfl)) (fun _ _ _ _ _ => pts_nil)
          (fun _ _ _ _ _ => pe_call FV.ok (by exact hr.mono (by decide)) (by rfl) FV.m FV.k FV.b .nil pass0 (pa_cons (pv 11) (pa_cons (pv 5) pa_nil))))
      (pss_cons (ps_for PassesOwn.never rfl (pi_zipK true true (by rfl) B.zip (pa_cons (pv 3) (pa_cons (pv 4) pa_nil))) (pg_tup rfl (pgs_cons (pg_name (i := 7) nd rfl (Or.inr rfl)) (pgs_cons (pg_name (i := 8) nd rfl (Or.inl rfl)) pgs_nil)))
        (pss_one (ps_for PassesOwn.never rfl (pi_enumK true (by rfl) B.enum (pa_cons (pv 8) pa_nil)) (pg_tup rfl (pgs_cons (pg_name (i := 9) nd rfl (Or.inr rfl)) (pgs_cons (pg_name (i := 10) nd rfl (Or.inr rfl)) pgs_nil)))
          (pss_one (ps_if (PW.pt (pw_and (pt_cmpR op_notN (pv 10) pe_non (by rfl)) (pw_and1 (pt_not (pt_val (pe_callB (cr_all rfl) (by rfl) B.all (by decide +kernel) (pa_cons (pe_lc (own := [("table", 12)]) (g := gName 12) (tt := tYes) rfl nd (pi_list (pv 6)) (blkOk_by (own := [("table", 12)]) (N := nmSpan) (sc := defScope sValuesInSpan) (by decide +kernel)) (fun _ _ _ _ _ => pg_name (i := 12) nd rfl (Or.inl rfl) (Or.inr rfl)) (fun _ _ _ _ _ => pts_nil)
            (fun _ _ _ _ _ => pe_call FR.ok (by exact hr.mono (by decide)) (by rfl) FR.m FR.k FR.b .nil pass0 (pa_cons (pv 10) (pa_cons (pv 3) (pa_cons (pe_op op_add (pe_op op_mul pe_int (pv 7)) (pv 9)) (pa_cons (pv 12) pa_nil)))))) pa_nil))))))) (pss_one (ps_ret pe_non)) pss_nil)))))
      (pss_one (ps_ret (pv 6)))))))), ?_⟩
    refine ⟨_, rfl, _, rfl, v, w, d, eo, rfl, hd, hf, he, fun H1 s1 => ⟨_, rfl, ?_⟩⟩
    cases hc : d.cert? eo with
    | none =>
      refine iteT (hno (fun zs rs e hcf _ => ?_) _ s1)
      rw [e, cert?_of hcf] at hc
      cases hc
    | some c =>
    refine iteF ?_
    obtain ⟨zs, _, ed, hcf⟩ := cert?_some hc
    obtain ⟨cns, rs⟩ := c
    dsimp only at ed hcf
    subst ed
    have uniq : ∀ {zs' rs'}, certN zs rs = certN zs' rs' → zs' = zs ∧ rs' = rs := fun h => ⟨(certN_inj h).1.symm, (certN_inj h).2.symm⟩
    obtain ⟨m, hpre⟩ := hpre zs rs rfl hcf
    have hyes := hyes zs rs rfl hcf
    have no : ¬ SpanOk eo Rs zs rs → ∀ H', Same H H' → Q .non H' := fun h => hno fun zs' rs' e _ hs => by
      obtain ⟨rfl, rfl⟩ := uniq e
      exact h hs
    obtain ⟨a, vs, rfl, ha, hx⟩ := td_tup hd
    obtain ⟨v1, v2, rfl, d1, d2⟩ : ∃ v1 v2, vs = [v1, v2] ∧ Td K H v1 (rowT (natsI zs)) ∧ Td K H v2 (rowsT rs) := by
      cases hx with
      | cons h1 r => cases r with
        | cons h2 r => cases r with
          | nil => exact ⟨_, _, rfl, h1, h2⟩
    obtain ⟨a1, rfl, ha1⟩ := td_row d1
    rw [natsV_I] at ha1
    obtain ⟨a2, xs2, rfl, ha2, hx2⟩ := td_tup d2
    have hl2 : xs2.length = rs.length := by rw [tdAll_len hx2, List.length_map]
    have ha1' := same_tup s1 ha1
    refine ⟨_, rfl, a, _, rfl, same_tup s1 ha, rfl, _, _, rfl, _, _, rfl, rfl, ?_⟩
    have zlen := hcf.few
    -- the first number, the end, the starts
    obtain ⟨rxs, hL, hrl, hrx⟩ := id hRs
    have hstart : ∀ {i : Nat} {x : V} {Hc : Hp}, (rxs.map V.ref)[i]? = some x → Same H Hc → ∃ (y : Addr) (R : Plain), x = .ref y ∧ Rs[i]? = some R ∧ RuleAt K C Hc y R := fun {i x Hc} e sc => by
      rw [List.getElem?_map] at e
      cases e1 : rxs[i]? with
      | none => rw [e1] at e; cases e
      | some y =>
        rw [e1] at e
        cases e
        have hi := (List.getElem?_eq_some_iff.1 e1).1
        have e2 : Rs[i]? = some (Rs[i]'(by omega)) := List.getElem?_eq_getElem (by omega)
        exact ⟨y, _, rfl, e2, (hrx i y _ e1 e2).same sc⟩
    let Z : Prop := zs.take 1 = [0] ∨ eo = some 0 ∨ ∀ R, R ∈ Rs → ∀ z, z ∈ R.firsts → z = 0
    refine ⟨fun σ Hc => Same H Hc ∧ Z ∧ σ = [some (.ref a), some (.ref L), some w, some (.ref a1), some (.ref a2), none, none, none, none, none, none, none, none], ?_, ?_⟩
    · refine ⟨_, rfl, _, rfl, a1, natsV zs, rfl, ha1', fun p H2 s2 hp => ?_⟩
      have hp' : SqT K H2 p ((natsI (zs.take 1)).map V.int) := by
        have : cutV (natsV zs) none (some 1) = (natsV zs).take 1 := cut_take (k := 1)
        rw [this] at hp
        rw [natsV_I]
        unfold natsV at hp ⊢
        rwa [List.map_take]
      refine ⟨by show 1 ≤ sizeLine; decide, fun q nq => ⟨_, _, row_dp (same_tup (same_new nq) hp'), row_dp (r := [0]) (SqT.of upd_same), shaped_row _, shaped_row _, _, rfl, ?_⟩⟩
      have s3 := (s1.trans s2).trans (same_new (o := .tup [V.int 0]) nq)
      rw [eqv_row]
      generalize (upd H2 q (.tup [V.int 0])) = H3 at *
      by_cases hz1 : zs.take 1 = [0]
      · have : natsI (zs.take 1) = [0] := by rw [hz1]; rfl
        refine iteF' (by simp [this]) (iteF ⟨s3, .inl hz1, rfl⟩)
      have hz1' : natsI (zs.take 1) ≠ [0] := fun e => hz1 (natsI_inj (b := [0]) e)
      refine iteT' (by simp [hz1']) ?_
      refine ⟨_, rfl, ?_⟩
      have hend : scal w (.int 0) = true ∧ (w = .int 0 ↔ eo = some 0) := by
        unfold EndAt at he
        subst he
        cases eo with
        | none => exact ⟨rfl, ⟨(fun e => by cases e), fun e => by cases e⟩⟩
        | some e => exact ⟨rfl, ⟨(fun q => by cases q; rfl), fun q => by cases q; rfl⟩⟩
      refine ⟨hend.1, _, rfl, ?_⟩
      by_cases hz2 : w = .int 0
      · exact iteF' (by simp [hz2]) (iteF ⟨s3, .inr (.inl (hend.2.1 hz2)), rfl⟩)
      refine iteT' (by simpa using hz2) ?_
      refine ⟨_, rfl, L, rfl, ⟨_, s3.seq hL⟩, fun D nD => ?_⟩
      refine lc_out (walk_list (xs := rxs.map V.ref)) (fun i Hc => Grow H3 D (((Rs.take i).map fun R => R.firsts.any (· != 0)).map V.bl) Hc) (Grow.start nD) (fun i Hc _ g => (s3.trans g.s).seq hL) ?_ ?_
      · rintro i x H0 Hc hi g ⟨rfl, hx'⟩
        rw [List.length_map] at hi
        obtain ⟨y, R, rfl, eR, hR⟩ := hstart hx' (s3.trans g.s)
        obtain ⟨dx, hh, hs, hto, ae, ao, h1, h2, h3, h4, h5, h6⟩ := hR.ex
        refine ⟨rfl, _, rfl, y, C, dx, _, _, rfl, h1, T.cl, T.ns, ruleF_s _ _ _, hs, R.firsts, rfl, h5, _, g.d, small1000 (by rw [List.length_map, List.length_map, List.length_take]; omega), ?_⟩
        have := g.step nD (V.bl (R.firsts.any (· != 0)))
        rw [map_bl_snoc _ Rs i R eR]
        exact this
      · intro Hc g
        rw [List.length_map, hrl, List.take_length] at g
        refine ⟨D, Rs.map fun R => R.firsts.any (· != 0), rfl, SqL.of g.d, _, rfl, ?_⟩
        by_cases hz3 : ∀ R, R ∈ Rs → ∀ z, z ∈ R.firsts → z = 0
        · refine iteF' ?_ ⟨s3.trans g.s, .inr (.inr hz3), rfl⟩
          rw [Bool.eq_false_iff]
          intro h
          rw [List.any_map] at h
          obtain ⟨R, hR, h⟩ := List.any_eq_true.1 h
          obtain ⟨z, hz, h⟩ := List.any_eq_true.1 h
          rw [hz3 R hR z hz] at h
          cases h
        · refine iteT' ?_ (no (fun h => ?_) _ (s3.trans g.s))
          · refine Classical.byContradiction fun h => hz3 fun R hR z hz => ?_
            rw [Bool.not_eq_true, List.any_map] at h
            refine Classical.byContradiction fun h0 => ?_
            have h1 := List.any_eq_false.1 h R hR
            exact h1 (List.any_eq_true.2 ⟨z, hz, by simpa using h0⟩)
          · rcases h.zero with q | q | q
            · exact hz1 q
            · exact hz2 (hend.2.2 q)
            · exact hz3 q
    rintro σ Hc ⟨s2, hZ, rfl⟩
    have hrsl := hcf.len
    refine ⟨_, rfl, _, rfl, a1, .ref a2, zs, rs, rfl, same_tup s2 ha1, td_same s2 d2, hrsl, zlen, fun H3 pA as s3 npA hpA hasked hasl => ?_⟩
    have s03 := s2.trans s3
    have hpA' : SqL K H3 pA (natsV as) := SqL.of hpA
    -- the tables
    refine ⟨_, rfl, L, rfl, ⟨_, s03.seq hL⟩, fun D nD => ?_⟩
    have hpreR : ∀ R, R ∈ Rs → ∀ z, z ∈ as → z < 2 ^ 1100 ∧ Steps R z m := fun R hR z hz => (hpre R hR).steps z ((hasked z).1 hz)
    refine lc_out (walk_list (xs := rxs.map V.ref)) (fun i Hd => ∃ ds : List Addr, Grow H3 D (ds.map V.ref) Hd ∧ ds.length = i ∧ ∀ (j : Nat) dj R, ds[j]? = some dj → Rs[j]? = some R → ∃ kvs, Hd dj = some (.dK kvs) ∧ ∀ z, z ∈ as → ∃ v, valV kvs (Sum.inl (z : Int)) = some v ∧ ValNew K (upd H3 D (.lst [])) Hd v (valQ R z)) ⟨[], Grow.start nD, rfl, fun j dj R e _ => by simp at e⟩ (fun i Hd _ ⟨ds, g, _⟩ => (s03.trans g.s).seq hL) ?_ ?_
    · rintro i x H0 Hd hi ⟨ds, g, hdl, hds⟩ ⟨rfl, hx'⟩
      rw [List.length_map] at hi
      obtain ⟨y, R, rfl, eR, hR⟩ := hstart hx' (s03.trans g.s)
      have hRm := List.mem_of_getElem? eR
      refine ⟨rfl, _, rfl, _, rfl, y, pA, R, as, m, rfl, hR, g.s.seq hpA', by omega, hpreR R hRm, fun H5 Dt kvs s5 nDt hDt hK hkeys => ?_⟩
      have gd := s5 _ _ g.d
      have g5 := g.same s5
      have hD0 : (upd H3 D (.lst [])) D ≠ none := by rw [upd_same]; exact fun z => by cases z
      have sD : Same (upd H3 D (.lst [])) (upd Hd D (.lst [])) := fun c o hc => by
        by_cases e : c = D
        · rw [e, upd_same] at hc ⊢; exact hc
        · rw [upd_ne e] at hc ⊢
          exact g.s _ _ hc
      refine ⟨_, gd, small1000 (by rw [List.length_map]; omega), ds ++ [Dt], ?_, by simp [hdl], fun j dj R' w1 w2 => ?_⟩
      · have := g5.step nD (V.ref Dt)
        rw [List.map_append]; exact this
      · have hDtD : Dt ≠ D := fun e => by rw [← e, hDt] at gd; cases gd
        by_cases hj : j < ds.length
        · rw [List.getElem?_append_left hj] at w1
          obtain ⟨kvj, hkj, hvj⟩ := hds j dj R' w1 w2
          refine ⟨kvj, ?_, fun z hz => ?_⟩
          · have h5 := s5 _ _ hkj
            rw [upd_ne (fun e => by rw [e, gd] at h5; cases h5)]; exact h5
          · obtain ⟨v, e1, e2⟩ := hvj z hz
            exact ⟨v, e1, (e2.same s5).put hD0 gd rfl⟩
        · have hj2 : j = i := by
            have := (List.getElem?_eq_some_iff.1 w1).1
            simp at this; omega
          subst hj2
          rw [List.getElem?_append_right (by omega), hdl, Nat.sub_self] at w1
          cases w1
          rw [eR] at w2
          cases w2
          refine ⟨kvs, by rw [upd_ne hDtD]; exact hDt, fun z hz => ?_⟩
          have hs := hkeys z hz
          cases ev : valV kvs (Sum.inl (z : Int)) with
          | none => rw [ev] at hs; cases hs
          | some v =>
            refine ⟨v, rfl, ?_⟩
            have hv := hK z v ev
            -- what is new to Hd is new to the heap with the empty list
            have hv' : ValNew K (upd H3 D (.lst [])) H5 v (valQ R z) := by
              obtain ⟨t, c, tt, e, q1, q2, q3⟩ := hv
              refine ⟨t, c, tt, e, q1, q2, fun ht => ?_⟩
              have := q3 ht
              have hcD : c ≠ D := fun e2 => by rw [e2, g.d] at this; cases this
              rw [upd_ne hcD]
              exact g.s.free this
            exact hv'.put hD0 gd rfl
    rintro H4 ⟨ds, g4, hdl, hds⟩
    rw [List.length_map, hrl] at hdl
    have s04 := s03.trans g4.s
    have hT4 : TablesAt K H4 D Rs zs rs := ⟨ds, g4.d, hdl, fun i dj R e1 e2 => by
      obtain ⟨kvs, h1, h2⟩ := hds i dj R e1 e2
      refine ⟨kvs, h1, fun z hz => ?_⟩
      obtain ⟨v, e3, e4⟩ := h2 z ((hasked z).2 hz)
      have e5 : (valQ R z) = (JR R z, 1) := Prod.ext rfl ((hpre R (List.mem_of_getElem? e2)).int z hz)
      rw [e5] at e4
      exact ⟨v, e3, e4.at_⟩⟩
    have hDD : H D = none := s03.free nD
    -- row by row
    have hnl : (natsV zs).length = zs.length := by simp [natsV]
    refine ⟨_, rfl, _, rfl, a1, a2, _, _, rfl, same_tup s04 ha1, same_tup s04 ha2, ?_⟩
    refine for_it (walk_zipK (t := true) (u := true) (n := zs.length) (by rw [hnl, hl2]; omega)) (fun i σ Hd => Same H4 Hd ∧ (∀ (j n : Nat) p, j < i → zs[j]? = some n → rs[j]? = some p → ∀ R, R ∈ Rs → RowsRight R zs n p) ∧
        ∃ y7 y8 y9 y10 : Option V, σ = [some (.ref a), some (.ref L), some w, some (.ref a1), some (.ref a2), some (.ref pA), some (.ref D), y7, y8, y9, y10, none, none]) ⟨Same.refl _, fun j n p h => by omega, none, none, none, none, rfl⟩ (fun i σ Hd _ h => ⟨same_tup (s04.trans h.1) ha1, same_tup (s04.trans h.1) ha2⟩) ?_ ?_
    · rintro i x σ Hd0 Hd hi ⟨s5, hall, y7, y8, y9, y10, rfl⟩ ⟨U, u1, u2, rfl, hU, rfl, q1, q2⟩
      replace q1 : (natsV zs)[i]? = some u1 := q1
      replace q2 : xs2[i]? = some u2 := q2
      unfold natsV at q1
      rw [List.getElem?_map, List.getElem?_eq_getElem hi] at q1
      cases q1
      have eni : zs[i]? = some zs[i] := List.getElem?_eq_getElem hi
      obtain ⟨dd, hd1, hd2⟩ := tdAll_get hx2 q2
      rw [List.getElem?_map] at hd1
      have epi : rs[i]? = some (rs[i]'(by omega)) := List.getElem?_eq_getElem (by omega)
      rw [epi] at hd1
      cases hd1
      generalize zs[i] = n at *
      generalize rs[i]'(by omega) = pp at *
      obtain ⟨p0, p1⟩ := pp
      have sU := same_new (o := .tup [V.int (n : Int), u2]) hU
      have s6 := s5.trans sU
      refine ⟨U, _, rfl, SqT.of upd_same, rfl, _, _, rfl, _, _, rfl, rfl, ?_⟩
      generalize (upd Hd0 U (.tup [V.int (n : Int), u2])) = Hd at *
      obtain ⟨b, ws, rfl, hb, hw⟩ := td_tup hd2
      obtain ⟨w0, w1, rfl, f0, f1⟩ : ∃ v1 v2, ws = [v1, v2] ∧ Td K H v1 (optT p0) ∧ Td K H v2 (optT p1) := by
        cases hw with
        | cons h1 r => cases r with
          | cons h2 r => cases r with
            | nil => exact ⟨_, _, rfl, h1, h2⟩
      have s06 := s04.trans s6
      refine ⟨_, rfl, b, [w0, w1], rfl, same_tup s06 hb, ?_⟩
      refine for_it (walk_enumK (t := true) (xs := [w0, w1])) (fun j σ He => Same Hd He ∧ ((1 ≤ j → ∀ R, R ∈ Rs → ∀ ps, p0 = some ps → RightB ps zs (JR R) (2 * n) R.firsts.length) ∧ (2 ≤ j → ∀ R, R ∈ Rs → ∀ ps, p1 = some ps → RightB ps zs (JR R) (2 * n + 1) R.firsts.length)) ∧
          ∃ y9 y10 : Option V, σ = [some (.ref a), some (.ref L), some w, some (.ref a1), some (.ref a2), some (.ref pA), some (.ref D), some (.int (n : Int)), some (.ref b), y9, y10, none, none]) ⟨Same.refl _, ⟨fun h => by omega, fun h => by omega⟩, y9, y10, rfl⟩ (fun j σ He _ h => same_tup (s06.trans h.1) hb) ?_ ?_
      · rintro j xj σ He0 He hj ⟨s7, ⟨hj1, hj2⟩, z9, z10, rfl⟩ ⟨U2, u3, u4, rfl, hU2, rfl, q3, q4⟩
        cases q3
        replace q4 : [w0, w1][j]? = some u4 := q4
        have hj2' : j < 2 := hj
        have sU2 := same_new (o := .tup [V.int (j : Nat), u4]) hU2
        have s8 := s7.trans sU2
        have s08 := s06.trans s8
        have s48 := s6.trans s8
        refine ⟨U2, _, rfl, SqT.of upd_same, rfl, _, _, rfl, _, _, rfl, rfl, ?_⟩
        generalize (upd He0 U2 (.tup [V.int (j : Nat), u4])) = He at *
        refine ⟨_, rfl, rfl, _, rfl, ?_⟩
        -- one row
        obtain ⟨o, ho, hj01⟩ : ∃ o, Td K H u4 (optT o) ∧ ((j = 0 ∧ o = p0) ∨ (j = 1 ∧ o = p1)) := by
          match j, q4 with
          | 0, q4 => cases q4; exact ⟨p0, f0, .inl ⟨rfl, rfl⟩⟩
          | 1, q4 => cases q4; exact ⟨p1, f1, .inr ⟨rfl, rfl⟩⟩
        have hask : o.isSome = true → Asked zs rs (2 * n + j) := fun h => by
          rcases hj01 with ⟨rfl, rfl⟩ | ⟨rfl, rfl⟩
          · exact .inr ⟨i, n, _, eni, epi, .inl ⟨h, by omega⟩⟩
          · exact .inr ⟨i, n, _, eni, epi, .inr ⟨h, by omega⟩⟩
        have hRO : ∀ ps, o = some ps → ∀ R, R ∈ Rs → RightOk ps zs (JR R) (2 * n + j) R.firsts.length m := fun ps e R hR => by
          have := (hpre R hR).right i n _ eni epi
          rcases hj01 with ⟨rfl, rfl⟩ | ⟨rfl, rfl⟩
          · exact this.1 ps e
          · exact this.2 ps e
        have nx : ∀ H9, Same He H9 → (∀ R, R ∈ Rs → ∀ ps, o = some ps → RightB ps zs (JR R) (2 * n + j) R.firsts.length) → Same Hd H9 ∧ ((1 ≤ j + 1 → ∀ R, R ∈ Rs → ∀ ps, p0 = some ps → RightB ps zs (JR R) (2 * n) R.firsts.length) ∧ (2 ≤ j + 1 → ∀ R, R ∈ Rs → ∀ ps, p1 = some ps → RightB ps zs (JR R) (2 * n + 1) R.firsts.length)) := fun H9 s9 h => by
          refine ⟨s8.trans s9, ?_⟩
          rcases hj01 with ⟨rfl, rfl⟩ | ⟨rfl, rfl⟩
          · exact ⟨fun _ => h, fun h => by omega⟩
          · exact ⟨fun _ => hj1 (by omega), fun _ => h⟩
        have bad : ∀ R, R ∈ Rs → ∀ ps, o = some ps → ¬ RightB ps zs (JR R) (2 * n + j) R.firsts.length → ¬ SpanOk eo Rs zs rs := fun R hR ps e hn h => by
          have := h.row i n _ eni epi R hR
          rcases hj01 with ⟨rfl, rfl⟩ | ⟨rfl, rfl⟩
          · exact hn (this.1 ps e)
          · exact hn (this.2 ps e)
        by_cases hu4 : u4 = .non
        · refine iteF' (by simp [hu4]) (iteF ?_)
          have eo' : o = none := by
            cases o with
            | none => rfl
            | some ps =>
              obtain ⟨c, zs', e', _⟩ := td_tup ho
              rw [e'] at hu4; cases hu4
          have := nx He (Same.refl _) (fun R hR ps e => by rw [eo'] at e; cases e)
          exact ⟨this.1, this.2, _, _, rfl⟩
        obtain ⟨ps, rfl⟩ : ∃ ps, o = some ps := by
          cases o with
          | none => exact absurd (td_non ho) hu4
          | some ps => exact ⟨ps, rfl⟩
        have hdp : Dp K H u4 (prowD ps) := dp_prow ho
        refine iteT' (by simpa using hu4) ?_
        have hDe : SqL K He D (ds.map V.ref) := SqL.of (s48 _ _ g4.d)
        refine ⟨_, rfl, D, rfl, ⟨_, hDe⟩, fun D9 nD9 => ?_⟩
        refine lc_out (walk_list (xs := ds.map V.ref)) (fun k Hf => ∃ bs : List Bool, Grow He D9 (bs.map V.bl) Hf ∧ bs.length = k ∧ ∀ (i : Nat) b R, bs[i]? = some b → Rs[i]? = some R → (b = true ↔ RightB ps zs (JR R) (2 * n + j) R.firsts.length)) ⟨[], Grow.start nD9, rfl, fun i b R e _ => by simp at e⟩ (fun k Hf _ ⟨bs, g, _⟩ => SqL.same hDe g.s) ?_ ?_
        · rintro k x9 H0 Hf hk ⟨bs, g, hbl, hbs⟩ ⟨rfl, hx9⟩
          rw [List.length_map] at hk
          have edk : ds[k]? = some ds[k] := List.getElem?_eq_getElem hk
          rw [List.getElem?_map, edk] at hx9
          cases hx9
          have eRk : Rs[k]? = some (Rs[k]'(by omega)) := List.getElem?_eq_getElem (by omega)
          have hRm := List.mem_of_getElem? eRk
          obtain ⟨ds', t1, t2, t3⟩ := id hT4
          have eds : ds' = ds := by
            rw [g4.d] at t1
            injection t1 with t1
            injection t1 with t1
            have := congrArg (List.filterMap fun v : V => match v with | .ref a => some a | _ => none) t1
            rw [List.filterMap_map, List.filterMap_map] at this
            have e : ((fun v : V => match v with | .ref a => some a | _ => none) ∘ V.ref) = some := rfl
            rw [e, List.filterMap_some, List.filterMap_some] at this
            exact this.symm
          subst eds
          obtain ⟨kvs, hkv, htab⟩ := t3 k _ _ edk eRk
          have s4f := s48.trans g.s
          have htab' : TabAt K Hf kvs (JR (Rs[k]'(by omega))) (fun z => z ∈ zs ∨ z = 2 * n + j) := fun z hz => by
            refine (htab.same s4f) z ?_
            rcases hz with h | h
            · exact .inl h
            · rw [h]; exact hask rfl
          refine ⟨rfl, _, rfl, _, rfl, _, rfl, _, _, rfl, rfl, .inl ⟨by decide, by decide⟩, _, rfl, _, _, rfl, rfl, _, rfl, u4, a1, ds'[k], ps, zs, 2 * n + j, kvs, JR (Rs[k]'(by omega)), _, m, rfl, dp_same (s08.trans g.s) hdp, same_tup (s08.trans g.s) ha1, s4f _ _ hkv, htab', hRO ps rfl _ hRm, fun bb hbb H10 s10 => ?_⟩
          have g10 := g.same s10
          refine ⟨_, g10.d, small1000 (by rw [List.length_map]; omega), bs ++ [bb], ?_, by simp [hbl], fun i2 b2 R2 w1 w2 => ?_⟩
          · have := g10.step nD9 (V.bl bb)
            rw [List.map_append]; exact this
          · by_cases hi2 : i2 < bs.length
            · rw [List.getElem?_append_left hi2] at w1
              exact hbs i2 b2 R2 w1 w2
            · have : i2 = k := by
                have := (List.getElem?_eq_some_iff.1 w1).1
                simp at this; omega
              subst this
              rw [List.getElem?_append_right (by omega), hbl, Nat.sub_self] at w1
              cases w1
              rw [eRk] at w2
              cases w2
              exact hbb
        · rintro Hf ⟨bs, g, hbl, hbs⟩
          rw [List.length_map, hdl] at hbl
          refine ⟨D9, bs, rfl, SqL.of g.d, _, rfl, ?_⟩
          by_cases hall9 : bs.all id = true
          · refine iteF' (by rw [hall9]; rfl) ?_
            have := nx Hf g.s (fun R hR ps' e => by
              cases e
              obtain ⟨k, hk, rfl⟩ := List.getElem_of_mem hR
              have e1 : bs[k]? = some (bs[k]'(by omega)) := List.getElem?_eq_getElem (by omega)
              have h1 := hbs k _ _ e1 (List.getElem?_eq_getElem hk)
              exact h1.1 (List.all_eq_true.mp hall9 _ (List.getElem_mem (by omega))))
            exact ⟨this.1, this.2, _, _, rfl⟩
          · rw [Bool.not_eq_true] at hall9
            refine iteT' (by rw [hall9]; rfl) ?_
            obtain ⟨b9, hb9, hf9⟩ : ∃ b, b ∈ bs ∧ b = false := by
              refine Classical.byContradiction fun h => ?_
              have : bs.all id = true := List.all_eq_true.mpr fun b hb => by
                cases b with
                | true => rfl
                | false => exact absurd ⟨false, hb, rfl⟩ h
              rw [this] at hall9; cases hall9
            obtain ⟨k, hk, rfl⟩ := List.getElem_of_mem hb9
            have e2 : Rs[k]? = some (Rs[k]'(by omega)) := List.getElem?_eq_getElem (by omega)
            have h1 := hbs k _ _ (List.getElem?_eq_getElem hk) e2
            refine no (bad _ (List.mem_of_getElem? e2) ps rfl fun h => ?_) _ (s08.trans g.s)
            have := h1.2 h
            rw [hf9] at this; cases this
      · rintro σ He ⟨s7, ⟨hj1, hj2⟩, z9, z10, rfl⟩
        refine ⟨s6.trans s7, fun j n' p' hj e1 e2 R hR => ?_, _, _, _, _, rfl⟩
        by_cases hji : j < i
        · exact hall j n' p' hji e1 e2 R hR
        · have : j = i := by omega
          subst this
          rw [eni] at e1
          rw [epi] at e2
          cases e1
          cases e2
          exact ⟨fun ps e => hj1 (by show 1 ≤ 2; decide) R hR ps e, fun ps e => hj2 (by show 2 ≤ 2; decide) R hR ps e⟩
    · rintro σ Hd ⟨s5, hall, y7, y8, y9, y10, rfl⟩
      refine ⟨_, rfl, hyes ⟨hZ, fun i n p e1 e2 => hall i n p (List.getElem?_eq_some_iff.1 e1).1 e1 e2⟩ Hd D (s04.trans s5) hDD ?_⟩
      obtain ⟨ds', t1, t2, t3⟩ := hT4
      exact ⟨ds', s5 _ _ t1, t2, fun i dj R e1 e2 => by
        obtain ⟨kvs, h1, h2⟩ := t3 i dj R e1 e2
        exact ⟨kvs, s5 _ _ h1, h2.same s5⟩⟩
end
end L2.EH
end S_T15
section S_T16
set_option exponentiation.threshold 20000
set_option maxRecDepth 100000
set_option maxHeartbeats 4000000
namespace L2.EH
open PySem PySem.Spec PyProof.Rows StX
/-! ### rules among things -/
def plains? : List Th → Option (List Plain)
  | [] => some []
  | d :: ds => match d.plain?, plains? ds with
    | some R, some Rs => some (R :: Rs)
    | _, _ => none
theorem plains?_len : ∀ {ds : List Th} {Rs : List Plain}, plains? ds = some Rs → Rs.length = ds.length
  | [], Rs, h => by cases h; rfl
  | d :: ds, Rs, h => by
    unfold plains? at h
    split at h
    · rename_i R Rs' h1 h2
      cases h
      simp [plains?_len h2]
    · cases h
theorem plains?_get : ∀ {ds : List Th} {Rs : List Plain}, plains? ds = some Rs → ∀ {i : Nat} {d : Th}, ds[i]? = some d → d.plain? = Rs[i]?
  | d :: ds, Rs, h, i, x, e => by
    unfold plains? at h
    split at h
    · rename_i R Rs' h1 h2
      cases h
      cases i with
      | zero => cases e; exact h1
      | succ i => exact plains?_get h2 (by simpa using e)
    · cases h
theorem plains?_none : ∀ {ds : List Th}, plains? ds = none → ∃ (i : Nat) (d : Th), ds[i]? = some d ∧ d.plain? = none
  | [], h => by cases h
  | d :: ds, h => by
    unfold plains? at h
    split at h
    · cases h
    · rename_i hn
      cases h1 : d.plain? with
      | none => exact ⟨0, d, rfl, h1⟩
      | some R =>
        cases h2 : plains? ds with
        | none =>
          obtain ⟨i, x, e1, e2⟩ := plains?_none h2
          exact ⟨i + 1, x, by simpa using e1, e2⟩
        | some Rs => exact absurd h2 (hn R Rs h1)
def spRulesIn (K : PySem.W.Frag) (C : Addr) : Sp := fun vs H Q _ => ∃ (a : Addr) (xs : List V) (ds : List Th), vs = [.ref a] ∧ SqT K H a xs ∧ TdAll K H xs ds ∧ fitsAll ds ∧ ds.length ≤ 900 ∧ (∀ d, d ∈ ds → ∀ R, d.shape? = some R → PlainB R) ∧
  (∀ Rs, plains? ds = some Rs → ∀ H' L, Same H H' → H L = none → RulesAt K C H' L Rs → Q (.ref L) H') ∧ (plains? ds = none → ∀ H', Same H H' → Q .non H')
theorem scRulesIn : FnScope ["values", "rules", "value"] ["values"] (defScope sRulesIn) := ⟨rfl, rfl, rfl, by decide +kernel, rfl, by decide +kernel, by decide +kernel⟩
def toldAt (Rs : List Plain) (z : Nat) : List (Int × Int) := Rs.map fun R => toldV R (JR R z, 1)
def spAddUpAt (K : PySem.W.Frag) (C : Addr) : Sp := fun vs H Q _ => ∃ (L a l : Addr) (Rs : List Plain) (fs : List Int) (xs : List V) (ws : List (List Int × Int)) (m : Nat), vs = [.ref L, .ref a, .ref l] ∧ RulesAt K C H L Rs ∧ SqT K H a (fs.map V.int) ∧ SqL K H l xs ∧ xs.length = ws.length ∧ ws.length = Rs.length ∧
  (∀ (i : Nat) x w, xs[i]? = some x → ws[i]? = some w → ValAt K H x w) ∧ (∀ (i : Nat) R w, Rs[i]? = some R → ws[i]? = some w → ToldOk R w m) ∧ Rs.length ≤ 100 ∧ AddOk fs (List.zipWith toldV Rs ws) ∧ ∀ H', Same H H' → Q (.bl (decide (addsUp fs (List.zipWith toldV Rs ws) = 0))) H'
theorem scAddUpAt : FnScope ["rules", "factors", "lines", "rule", "values"] ["rules", "factors", "lines"] (defScope sAddUpAt) := ⟨rfl, rfl, rfl, by decide +kernel, rfl, by decide +kernel, by decide +kernel⟩
section
variable {P : Program} {w : World} {K : PySem.W.Frag} {mg : Str → Option Value} {base : Heap}
theorem ok_rulesIn {C f fP : Addr} {fd fdP : FuncData} (F : Fun K "rules_in" "rules_in" sRulesIn f fd) (T : PlainC K C) (FP : Fn' P w K mg base 5 "plain_in" fP fdP ["value"] (spPlainIn K C)) :
    FnOk P w K mg base CX0 6 f fd ["values"] (spRulesIn K C) := by
  refine F.ok scRulesIn (fun vs H Q E h => ?_) (fun cdv A outer s H vs Q E hr h => ?_)
  · obtain ⟨a, xs, ds, rfl, _⟩ := h
    rfl
  · obtain ⟨a, xs, ds, rfl, ha, hx, hf, hl, hB, hyes, hno⟩ := h
    have nd := scRulesIn.nd
    have hu64 := hr.units
    have hxl := tdAll_len hx
    refine ⟨_, pss_cons (ps_setLc (i := 1) (own := [("value", 2)]) (g := gName 2) (tt := tYes) (by rfl) nd rfl rfl (sw_true rfl rfl rfl (by decide +kernel)) (pi_tup (pv 0)) (blkOk_by (own := [("value", 2)]) (N := ["values", "rules", "value"]) (sc := defScope sRulesIn) (by decide +kernel)) (fun _ _ _ _ _ => pg_name (i := 2) nd rfl (Or.inl rfl) (Or.inr rfl)) (fun _ _ _ _ _ => pts_nil)
          (fun _ _ _ _ _ => pe_call FP.ok (by exact hr) (by rfl) FP.m FP.k FP.b .nil pass0 (pa_cons (pv 2) pa_nil)))
      (pss_one (ps_ret (pe_ifExp (pt_cmpR (op_noneIn (by exact hu64)) pe_non (pv 1) (by rfl)) pe_non (pv 1)))), ?_⟩
    refine ⟨_, rfl, a, rfl, ⟨_, ha⟩, fun D nD => ?_⟩
    have hD1 : (upd H D (.lst [])) D ≠ none := by rw [upd_same]; exact fun z => by cases z
    refine lc_out (walk_tup (xs := xs)) (fun i Hc => ∃ ys : List V, Grow H D ys Hc ∧ ys.length = i ∧ ∀ (j : Nat) y d, ys[j]? = some y → ds[j]? = some d → (d.plain? = none ∧ y = .non) ∨ ∃ R p, d.plain? = some R ∧ y = .ref p ∧ RuleNew K C (upd H D (.lst [])) Hc p R) ⟨[], Grow.start nD, rfl, fun j y d e _ => by simp at e⟩ (fun i Hc _ ⟨ys, g, _⟩ => same_tup g.s ha) ?_ ?_
    · rintro i x H0 Hc hi ⟨ys, g, hyl, hys⟩ ⟨rfl, hx'⟩
      obtain ⟨d, hd1, hd2⟩ := tdAll_get hx hx'
      have hdm := List.mem_of_getElem? hd1
      have step : ∀ (H5 : Hp) (y : V), Same Hc H5 → ((d.plain? = none ∧ y = .non) ∨ ∃ R p, d.plain? = some R ∧ y = .ref p ∧ RuleNew K C (upd H D (.lst [])) H5 p R) →
          ∃ acc, H5 D = some (.lst acc) ∧ acc.length < sizeLine ∧ ∃ ys' : List V, Grow H D ys' (upd H5 D (.lst (acc ++ [y]))) ∧ ys'.length = i + 1 ∧ ∀ (j : Nat) y2 d, ys'[j]? = some y2 → ds[j]? = some d → (d.plain? = none ∧ y2 = .non) ∨ ∃ R p, d.plain? = some R ∧ y2 = .ref p ∧ RuleNew K C (upd H D (.lst [])) (upd H5 D (.lst (acc ++ [y]))) p R := by
        intro H5 y s5 hy
        have g5 := g.same s5
        refine ⟨ys, g5.d, small1000 (by omega), ys ++ [y], g5.step nD y, by simp [hyl], fun j y2 d2 w1 w2 => ?_⟩
        by_cases hj : j < ys.length
        · rw [List.getElem?_append_left hj] at w1
          rcases hys j y2 d2 w1 w2 with h | ⟨R, p, h1, h2, h3⟩
          · exact .inl h
          · exact .inr ⟨R, p, h1, h2, (h3.same s5).put hD1 g5.d⟩
        · have hj2 : j = i := by
            have := (List.getElem?_eq_some_iff.1 w1).1
            simp at this; omega
          subst hj2
          rw [List.getElem?_append_right (by omega), hyl, Nat.sub_self] at w1
          cases w1
          rw [hd1] at w2
          cases w2
          rcases hy with h | ⟨R, p, h1, h2, h3⟩
          · exact .inl h
          · exact .inr ⟨R, p, h1, h2, h3.put hD1 g5.d⟩
      refine ⟨rfl, _, rfl, x, d, rfl, td_same g.s hd2, fitsAll_get hf hdm, hB d hdm, fun R hR H5 p s5 np hp => ?_, fun hn H5 s5 => step H5 .non s5 (.inl ⟨hn, rfl⟩)⟩
      refine step H5 (.ref p) s5 (.inr ⟨R, p, hR, rfl, ?_⟩)
      obtain ⟨dx, h, s, t, e, o, h1, h2, h3, h4, h5, h6, h7, h8⟩ := hp
      have new : ∀ {c : Addr}, Hc c = none → (upd H D (.lst [])) c = none := fun {c} hc => by
        rw [upd_ne (fun e2 => by rw [e2, g.d] at hc; cases hc)]
        exact g.s.free hc
      exact ⟨dx, h, s, t, e, o, h1, h2, h3, h4, h5, h6, new h7, new h8⟩
    · rintro Hc ⟨ys, g, hyl, hys⟩
      rw [hxl] at hyl
      have hcase : ∀ (j : Nat) (y : V), ys[j]? = some y → ∃ d, ds[j]? = some d ∧ ((d.plain? = none ∧ y = .non) ∨ ∃ R p, d.plain? = some R ∧ y = .ref p ∧ RuleAt K C Hc p R) := fun j y e => by
        have hj := (List.getElem?_eq_some_iff.1 e).1
        have e2 : ds[j]? = some (ds[j]'(by omega)) := List.getElem?_eq_getElem (by omega)
        refine ⟨_, e2, ?_⟩
        rcases hys j y _ e e2 with h | ⟨R, p, h1, h2, h3⟩
        · exact .inl h
        · exact .inr ⟨R, p, h1, h2, h3.at_⟩
      refine ⟨_, rfl, D, ys, rfl, rfl, SqL.of g.d, fun z hz => ?_, _, rfl, ?_⟩
      · obtain ⟨j, hj, rfl⟩ := List.getElem_of_mem hz
        obtain ⟨d, _, h | ⟨R, p, _, h2, h3⟩⟩ := hcase j _ (List.getElem?_eq_getElem hj)
        · exact .inl h.2
        · obtain ⟨dx, hh, hs, hto, ae, ao, h1, _⟩ := h3.ex
          exact .inr ⟨p, C, dx, _, h2, h1, T.mo, T.fe⟩
      · show if ys.any isNon = true then _ else _
        cases hp : plains? ds with
        | none =>
          obtain ⟨j, d, e1, e2⟩ := plains?_none hp
          have hj : j < ys.length := by have := (List.getElem?_eq_some_iff.1 e1).1; omega
          have e3 : ys[j]? = some ys[j] := List.getElem?_eq_getElem hj
          refine iteT' (List.any_eq_true.2 ⟨ys[j], List.getElem_mem hj, ?_⟩) (hno hp _ g.s)
          rcases hys j _ d e3 e1 with h | ⟨R, p, h1, _⟩
          · rw [h.2]; rfl
          · rw [e2] at h1; cases h1
        | some Rs =>
          refine iteF' ?_ ⟨_, rfl, hyes Rs hp Hc D g.s nD ?_⟩
          · rw [Bool.eq_false_iff]
            intro h
            obtain ⟨z, hz, h⟩ := List.any_eq_true.1 h
            obtain ⟨j, hj, rfl⟩ := List.getElem_of_mem hz
            obtain ⟨d, e1, h2 | ⟨R, p, _, h2, _⟩⟩ := hcase j _ (List.getElem?_eq_getElem hj)
            · have h3 := plains?_get hp e1
              rw [h2.1] at h3
              have : j < Rs.length := by rw [plains?_len hp]; omega
              rw [List.getElem?_eq_getElem this] at h3
              cases h3
            · rw [h2] at h; cases h
          · let ad : V → Addr := fun v => match v with | .ref a => a | _ => 0
            have hall : ∀ (j : Nat) y, ys[j]? = some y → ∃ R p, Rs[j]? = some R ∧ y = .ref p ∧ RuleAt K C Hc p R := fun j y e => by
              obtain ⟨d, e1, h2 | ⟨R, p, h1, h2, h3⟩⟩ := hcase j y e
              · have h3 := plains?_get hp e1
                rw [h2.1] at h3
                have : j < Rs.length := by
                  have := (List.getElem?_eq_some_iff.1 e1).1
                  rw [plains?_len hp]; exact this
                rw [List.getElem?_eq_getElem this] at h3
                cases h3
              · have h4 := plains?_get hp e1
                rw [h1] at h4
                exact ⟨R, p, h4.symm, h2, h3⟩
            have eys : ys = (ys.map ad).map V.ref := by
              rw [List.map_map]
              conv => lhs; rw [← List.map_id ys]
              refine List.map_congr_left fun y hy => ?_
              obtain ⟨j, hj, rfl⟩ := List.getElem_of_mem hy
              obtain ⟨R, p, _, h2, _⟩ := hall j _ (List.getElem?_eq_getElem hj)
              show ys[j] = V.ref (ad ys[j])
              rw [h2]
            refine ⟨ys.map ad, ?_, by rw [List.length_map, hyl, plains?_len hp], fun j x R e1 e2 => ?_⟩
            · rw [← eys]; exact SqL.of g.d
            · rw [List.getElem?_map] at e1
              cases e3 : ys[j]? with
              | none => rw [e3] at e1; cases e1
              | some y =>
                rw [e3] at e1
                cases e1
                obtain ⟨R', p, h1, h2, h3⟩ := hall j y e3
                rw [e2] at h1
                cases h1
                rw [h2]; exact h3
end
end L2.EH
end S_T16
section S_T17
set_option exponentiation.threshold 20000
set_option maxRecDepth 100000
set_option maxHeartbeats 4000000
namespace L2.EH
open PySem PySem.Spec PyProof.Rows StX
/-! ### sums at the numbers of a span -/
structure SumPre (fs : List Int) (Rs : List Plain) (z m : Nat) : Prop where
  told : ∀ R, R ∈ Rs → ToldOk R (JR R z, 1) m
  add : AddOk fs (toldAt Rs z)
def spAddUpInSpan (K : PySem.W.Frag) (C : Addr) : Sp := fun vs H Q _ => ∃ (v w : V) (L a : Addr) (d : Th) (eo : Option Int) (Rs : List Plain) (fs : List Int), vs = [.ref L, .ref a, v, w] ∧ Td K H v d ∧ d.fits ∧ EndAt w eo ∧ RulesAt K C H L Rs ∧ Rs.length ≤ 6 ∧ SqT K H a (fs.map V.int) ∧
  (∀ zs rs, d = certN zs rs → CertFact eo zs rs → ∃ m, (∀ R, R ∈ Rs → SpanPre R zs rs m) ∧ ∀ z, z ∈ zs → SumPre fs Rs z m) ∧
  ∀ b : Bool, (b = true ↔ ∃ zs rs, d = certN zs rs ∧ CertFact eo zs rs ∧ SpanOk eo Rs zs rs ∧ ∀ z, z ∈ zs → addsUp fs (toldAt Rs z) = 0) → ∀ H', Same H H' → Q (.bl b) H'
abbrev nmUp : List Str := ["rules", "factors", "certificate", "end", "tables", "number", "table"]
theorem scAddUpInSpan : FnScope nmUp ["rules", "factors", "certificate", "end"] (defScope sAddUpInSpan) := ⟨rfl, rfl, rfl, by decide +kernel, rfl, by decide +kernel, by decide +kernel⟩
theorem zip_told : ∀ (Rs : List Plain) (z : Nat), List.zipWith toldV Rs (Rs.map fun R => (JR R z, (1 : Int))) = toldAt Rs z
  | [], _ => rfl
  | R :: Rs, z => by
    have := zip_told Rs z
    unfold toldAt at this ⊢
    simp only [List.map_cons, List.zipWith_cons_cons, this]
def callArgK (k : Nat) : Expr → Expr
  | .Call _ es _ _ => es.getD k (.Constant .none 0 ⟨0, 0, 0, 0⟩)
  | e => e
def scUp : Scope := lcScope (callArgK 0 (retE (bodyAt sAddUpInSpan 2)))
section
variable {P : Program} {w : World} {K : PySem.W.Frag} {mg : Str → Option Value} {base : Heap}
theorem ok_addUpAt {C f fA fT : Addr} {fd fdA fdT : FuncData} (F : Fun K "add_up_at" "add_up_at" sAddUpAt f fd) (B : BN mg) (FA : Fn' P w K mg base 1 "adds_up_to_0" fA fdA ["factors", "pairs"] (spAddsUp K))
    (FT : Fn' P w K mg base 2 "told_value" fT fdT ["rule", "values"] (spToldValue K C)) : FnOk P w K mg base CX0 3 f fd ["rules", "factors", "lines"] (spAddUpAt K C) := by
  refine F.ok scAddUpAt (fun vs H Q E h => ?_) (fun cdv A outer s H vs Q E hr h => ?_)
  · obtain ⟨L, a, l, Rs, fs, xs, ws, m, rfl, _⟩ := h
    rfl
  · obtain ⟨L, a, l, Rs, fs, xs, ws, m, rfl, hRs, ha, hl, hxl, hwl, hxs, hT, hn, hA, k⟩ := h
    obtain ⟨rxs, hL, hrl, hrx⟩ := id hRs
    have nd := scAddUpAt.nd
    refine ⟨_, pss_one (ps_ret (pe_call FA.ok (by exact hr.mono (by decide)) (by rfl) FA.m FA.k FA.b .nil pass0 (pa_cons (pv 1) (pa_cons (pe_lc (own := [("rule", 3), ("values", 4)]) (g := gTup K 2 (gCons (gName 3) (gCons (gName 4) gNil))) (tt := tYes) rfl nd (pi_zipK false false (by rfl) B.zip (pa_cons (pv 0) (pa_cons (pv 2) pa_nil))) (blkOk_by (own := [("rule", 3), ("values", 4)]) (N := ["rules", "factors", "lines", "rule", "values"]) (sc := defScope sAddUpAt) (by decide +kernel))
        (fun _ _ _ _ _ => pg_tup rfl (pgs_cons (pg_name (i := 3) nd rfl (Or.inl rfl) (Or.inr rfl)) (pgs_cons (pg_name (i := 4) nd rfl (Or.inl rfl) (Or.inr rfl)) pgs_nil rfl) rfl) rfl rfl) (fun _ _ _ _ _ => pts_nil)
        (fun _ _ _ _ _ => pe_call FT.ok (by exact hr) (by rfl) FT.m FT.k FT.b .nil pass0 (pa_cons (pv 3) (pa_cons (pv 4) pa_nil)))) pa_nil)))), ?_⟩
    refine ⟨_, rfl, _, rfl, _, rfl, L, l, _, _, rfl, hL, hl, fun D nD => ?_⟩
    have hzl : (List.zipWith toldV Rs ws).length = Rs.length := by rw [List.length_zipWith, hwl]; omega
    refine lc_out (walk_zipK (t := false) (u := false) (n := Rs.length) (by rw [List.length_map, hrl, hxl, hwl]; omega)) (fun i Hc => ∃ ts : List Addr, Grow H D (ts.map V.ref) Hc ∧ ts.length = i ∧ ∀ (j : Nat) t p, ts[j]? = some t → (List.zipWith toldV Rs ws)[j]? = some p → Hc t = some (.tup [.int p.1, .int p.2])) ⟨[], Grow.start nD, rfl, fun j t p e _ => by simp at e⟩ (fun i Hc _ ⟨ts, g, _⟩ => ⟨SqL.same hL g.s, SqL.same hl g.s⟩) ?_ ?_
    · rintro i x Hc0 Hc hi ⟨ts, g, htl, hts⟩ ⟨T, u1, u2, rfl, hT0, rfl, e1, e2⟩
      replace e1 : (rxs.map V.ref)[i]? = some u1 := e1
      replace e2 : xs[i]? = some u2 := e2
      have er : rxs[i]? = some (rxs[i]'(by omega)) := List.getElem?_eq_getElem (by omega)
      have eR : Rs[i]? = some Rs[i] := List.getElem?_eq_getElem hi
      have ew : ws[i]? = some (ws[i]'(by omega)) := List.getElem?_eq_getElem (by omega)
      rw [List.getElem?_map, er] at e1
      cases e1
      have hv := hxs i u2 _ e2 ew
      have hR := hrx i _ _ er eR
      have hTo := hT i _ _ eR ew
      have sT := same_new (o := .tup [V.ref (rxs[i]'(by omega)), u2]) hT0
      have g2 := g.same sT
      refine ⟨T, _, rfl, SqT.of upd_same, rfl, _, _, rfl, _, _, rfl, rfl, rfl, ?_⟩
      refine ⟨_, rfl, _, rfl, _, u2, Rs[i], ws[i]'(by omega), m, rfl, hR.same g2.s, hv.same g2.s, hTo, fun H5 p s5 np hp => ?_⟩
      have g5 := g2.same s5
      refine ⟨_, g5.d, small1000 (by rw [List.length_map]; omega), ts ++ [p], ?_, by simp [htl], fun j t pp w1 w2 => ?_⟩
      · have := g5.step nD (V.ref p)
        rw [List.map_append]; exact this
      · have hne : ∀ {y : Addr} {o : List V}, H5 y = some (.tup o) → y ≠ D := fun {y o} hy e => by
          have := g5.d
          rw [← e, hy] at this; cases this
        by_cases hj : j < ts.length
        · rw [List.getElem?_append_left hj] at w1
          have h3 := s5 _ _ (sT _ _ (hts j t pp w1 w2))
          rw [upd_ne (hne h3)]; exact h3
        · have hj2 : j = i := by
            have := (List.getElem?_eq_some_iff.1 w1).1
            simp at this; omega
          subst hj2
          rw [List.getElem?_append_right (by omega), htl, Nat.sub_self] at w1
          cases w1
          rw [List.getElem?_zipWith, eR, ew] at w2
          cases w2
          rw [upd_ne (hne hp)]; exact hp
    · rintro Hc ⟨ts, g, htl, hts⟩
      exact ⟨a, D, fs, List.zipWith toldV Rs ws, rfl, same_tup g.s ha, ⟨ts.map V.ref, SqL.of g.d, by rw [List.length_map, htl, hzl], fun i x p e1 e2 => by
        rw [List.getElem?_map] at e1
        cases e3 : ts[i]? with
        | none => rw [e3] at e1; cases e1
        | some t =>
          rw [e3] at e1
          cases e1
          exact ⟨t, rfl, SqT.of (hts i t p e3 e2)⟩⟩, hA, fun H' s' => k H' (g.s.trans s')⟩
theorem ok_addUpInSpan {C f fV fU : Addr} {fd fdV fdU : FuncData} (F : Fun K "add_up_in_span" "add_up_in_span" sAddUpInSpan f fd) (B : BN mg) (FV : Fn' P w K mg base 6 "values_in_span" fV fdV ["value", "rules", "end"] (spValuesInSpan K C))
    (FU : Fn' P w K mg base 3 "add_up_at" fU fdU ["rules", "factors", "lines"] (spAddUpAt K C)) : FnOk P w K mg base CX0 7 f fd ["rules", "factors", "certificate", "end"] (spAddUpInSpan K C) := by
  refine F.ok scAddUpInSpan (fun vs H Q E h => ?_) (fun cdv A outer s H vs Q E hr h => ?_)
  · obtain ⟨v, w, L, a, d, eo, Rs, fs, rfl, _⟩ := h
    rfl
  · obtain ⟨v, w, L, a, d, eo, Rs, fs, rfl, hd, hf, he, hRs, hRl, ha, hpre, k⟩ := h
    have nd := scAddUpInSpan.nd
    have hu := hu_of hr
    refine ⟨_, pss_cons (ps_set (i := 4) nd rfl (Or.inr rfl) (pe_call FV.ok (by exact hr) (by rfl) FV.m FV.k FV.b .nil pass0 (pa_cons (pv 2) (pa_cons (pv 0) (pa_cons (pv 3) pa_nil)))))
      (pss_cons (ps_if (pt_cmpR op_isN (pv 4) pe_non (by rfl)) (pss_one (ps_ret pe_bl)) pss_nil)
      (pss_one (ps_ret (pe_callB (cr_all rfl) (by rfl) B.all (by decide +kernel) (pa_cons (pe_lc (own := [("number", 5)]) (g := gName 5) (tt := tYes) rfl nd (pi_tup (pe_ix ix_tup (pv 2) pe_int (fun _ _ => rfl))) (blkOk_by (own := [("number", 5)]) (N := nmUp) (sc := defScope sAddUpInSpan) (by decide +kernel)) (fun _ _ _ _ _ => pg_name (i := 5) nd rfl (Or.inr rfl) (Or.inl rfl)) (fun _ _ _ _ _ => pts_nil)
        (fun _ _ _ _ _ => pe_call FU.ok (by exact hr.mono (by decide)) (by rfl) FU.m FU.k FU.b .nil pass0 (pa_cons (pv 0) (pa_cons (pv 1) (pa_cons (pe_lc (own := [("table", 6)]) (g := gName 6) (tt := tYes) rfl nd (pi_listK (K := K) rfl (pv 4)) (blkOk_by (own := [("table", 6)]) (N := nmUp) (sc := scIn scUp (defScope sAddUpInSpan)) (by decide +kernel)) (fun _ _ _ _ _ => pg_name (i := 6) nd rfl (Or.inl rfl) (Or.inr rfl)) (fun _ _ _ _ _ => pts_nil)
          (fun _ _ _ _ _ => pe_dget (by exact hu) (pv 6) (pv 5) (fun _ _ => rfl))) pa_nil))))) pa_nil))))), ?_⟩
    have hsk : (∀ zs rs, d = certN zs rs → CertFact eo zs rs → ∃ m, ∀ R, R ∈ Rs → SpanPre R zs rs m) := fun zs rs e c => by
      obtain ⟨m, h, _⟩ := hpre zs rs e c
      exact ⟨m, h⟩
    refine ⟨_, rfl, _, rfl, _, rfl, v, w, L, d, eo, Rs, rfl, hd, hf, he, hRs, hRl, hsk, fun zs rs ed hcf hok H1 T s1 nT hT => ?_, fun hno H1 s1 => ?_⟩
    · refine ⟨_, rfl, rfl, _, rfl, iteF ?_⟩
      subst ed
      obtain ⟨m, hp1, hp2⟩ := hpre zs rs rfl hcf
      obtain ⟨av, vs, rfl, hav, hx⟩ := td_tup hd
      obtain ⟨v1, v2, rfl, d1, d2⟩ : ∃ v1 v2, vs = [v1, v2] ∧ Td K H v1 (rowT (natsI zs)) ∧ Td K H v2 (rowsT rs) := by
        cases hx with
        | cons h1 r => cases r with
          | cons h2 r => cases r with
            | nil => exact ⟨_, _, rfl, h1, h2⟩
      obtain ⟨a1, rfl, ha1⟩ := td_row d1
      rw [natsV_I] at ha1
      have at0 : atI [V.ref a1, v2] 0 = some (V.ref a1) := rfl
      obtain ⟨ds, hTd, hdl, hds⟩ := id hT
      have zlen := hcf.few
      refine ⟨_, rfl, av, _, _, _, rfl, rfl, same_tup s1 hav, at0, a1, rfl, ⟨_, same_tup s1 ha1⟩, fun D nD => ?_⟩
      have hnl : (natsV zs).length = zs.length := by simp [natsV]
      refine lc_out (walk_tup (xs := natsV zs)) (fun i Hc => Grow H1 D (((zs.take i).map fun z => decide (addsUp fs (toldAt Rs z) = 0)).map V.bl) Hc) (Grow.start nD) (fun i Hc _ g => same_tup (s1.trans g.s) ha1) ?_ ?_
      · rintro i x H0 Hc hi g ⟨rfl, hx'⟩
        rw [hnl] at hi
        unfold natsV at hx'
        have ez : zs[i]? = some zs[i] := List.getElem?_eq_getElem hi
        rw [List.getElem?_map, ez] at hx'
        cases hx'
        have hzm := List.mem_of_getElem? ez
        generalize zs[i] = z at *
        have sL : SqL K Hc T (ds.map V.ref) := SqL.of (g.s _ _ hTd)
        refine ⟨rfl, _, rfl, _, rfl, _, rfl, T, rfl, ⟨_, sL⟩, fun D2 nD2 => ?_⟩
        refine lc_out (walk_list (xs := ds.map V.ref)) (fun j Hd => ∃ xs : List V, Grow Hc D2 xs Hd ∧ xs.length = j ∧ ∀ (i : Nat) x R, xs[i]? = some x → Rs[i]? = some R → ValAt K Hc x (JR R z, 1)) ⟨[], Grow.start nD2, rfl, fun i x R e _ => by simp at e⟩ (fun j Hd _ ⟨xs, g2, _⟩ => SqL.same sL g2.s) ?_ ?_
        · rintro j x H00 Hd hj ⟨xs, g2, hxl, hxs⟩ ⟨rfl, hx'⟩
          rw [List.length_map] at hj
          have edj : ds[j]? = some ds[j] := List.getElem?_eq_getElem hj
          rw [List.getElem?_map, edj] at hx'
          cases hx'
          have eRj : Rs[j]? = some (Rs[j]'(by omega)) := List.getElem?_eq_getElem (by omega)
          obtain ⟨kvs, hk1, hk2⟩ := hds j _ _ edj eRj
          obtain ⟨vv, ev, hv⟩ := hk2 z (.inl hzm)
          refine ⟨rfl, _, rfl, _, rfl, ds[j], vv, rfl, .inl ⟨kvs, Sum.inl (z : Int), .inl (g2.s _ _ (g.s _ _ hk1)), rfl, ev.symm⟩, _, g2.d, small1000 (by omega), xs ++ [vv], g2.step nD2 vv, by simp [hxl], fun i2 x2 R2 w1 w2 => ?_⟩
          by_cases hi2 : i2 < xs.length
          · rw [List.getElem?_append_left hi2] at w1
            exact hxs i2 x2 R2 w1 w2
          · have : i2 = j := by
              have := (List.getElem?_eq_some_iff.1 w1).1
              simp at this; omega
            subst this
            rw [List.getElem?_append_right (by omega), hxl, Nat.sub_self] at w1
            cases w1
            rw [eRj] at w2
            cases w2
            exact hv.same g.s
        · rintro Hd ⟨xs, g2, hxl, hxs⟩
          rw [List.length_map, hdl] at hxl
          have hsp := hp2 z hzm
          refine ⟨L, a, D2, Rs, fs, xs, Rs.map fun R => (JR R z, (1 : Int)), m, rfl, hRs.same ((s1.trans g.s).trans g2.s), same_tup ((s1.trans g.s).trans g2.s) ha, SqL.of g2.d, by rw [hxl, List.length_map], by rw [List.length_map], fun i2 x w1 e1 e2 => ?_, fun i2 R w1 e1 e2 => ?_, by omega, by rw [zip_told]; exact hsp.add, fun H9 s9 => ?_⟩
          · rw [List.getElem?_map] at e2
            cases e3 : Rs[i2]? with
            | none => rw [e3] at e2; cases e2
            | some R =>
              rw [e3] at e2
              cases e2
              exact (hxs i2 x R e1 e3).same g2.s
          · rw [List.getElem?_map, e1] at e2
            cases e2
            exact hsp.told R (List.mem_of_getElem? e1)
          · rw [zip_told]
            have g9 := (g.same g2.s).same s9
            refine ⟨_, g9.d, small1000 (by rw [List.length_map, List.length_map, List.length_take]; omega), ?_⟩
            have := g9.step nD (V.bl (decide (addsUp fs (toldAt Rs z) = 0)))
            rw [map_bl_snoc (fun z => decide (addsUp fs (toldAt Rs z) = 0)) zs i z ez]
            exact this
      · intro Hc g
        rw [hnl, List.take_length] at g
        refine ⟨D, _, rfl, SqL.of g.d, ?_⟩
        refine k _ ?_ _ (s1.trans g.s)
        rw [List.all_map, List.all_eq_true]
        constructor
        · intro h
          exact ⟨zs, rs, rfl, hcf, hok, fun z hz => of_decide_eq_true (h z hz)⟩
        · rintro ⟨zs', rs', e, _, _, h⟩ z hz
          obtain ⟨rfl, rfl⟩ := certN_inj e
          exact decide_eq_true (h z hz)
    · refine ⟨_, rfl, rfl, _, rfl, iteT ?_⟩
      exact k false ⟨(fun z => by cases z), fun ⟨zs, rs, e, hcf, hok, _⟩ => (hno zs rs e hcf hok).elim⟩ _ s1
end
end L2.EH
end S_T17
section S_T18
set_option exponentiation.threshold 20000
set_option maxRecDepth 100000
set_option maxHeartbeats 4000000
namespace L2.EH
open PySem PySem.Spec PyProof.Rows StX
/-! ### relations -/
def RelOk (d1 d2 d3 : Th) : Prop := ∃ (ds : List Th) (Rs : List Plain) (fs : List Int) (zs : List Nat) (rs : List Fpair), d1 = .tup ds ∧ 1 ≤ ds.length ∧ ds.length ≤ 6 ∧ plains? ds = some Rs ∧ d2 = rowT fs ∧ fs.length = ds.length ∧ d3 = certN zs rs ∧ CertFact none zs rs ∧ SpanOk none Rs zs rs ∧ ∀ z, z ∈ zs → addsUp fs (toldAt Rs z) = 0
def RulesPre (d : Th) : Prop := ∀ ds, d = .tup ds → ∀ d, d ∈ ds → ∀ R, d.shape? = some R → PlainB R
def SumsPre (eo : Option Int) (d1 d2 d3 : Th) : Prop := ∀ ds Rs fs zs rs, d1 = .tup ds → plains? ds = some Rs → d2 = rowT fs → fs.length = ds.length → d3 = certN zs rs → CertFact eo zs rs → ∃ m, (∀ R, R ∈ Rs → SpanPre R zs rs m) ∧ ∀ z, z ∈ zs → SumPre fs Rs z m
def spIsRelation (K : PySem.W.Frag) : Sp := fun vs H Q _ => ∃ (t : Addr) (v1 v2 c : V) (d1 d2 d3 : Th), vs = [.ref t, c] ∧ SqT K H t [v1, v2] ∧ Td K H v1 d1 ∧ Td K H v2 d2 ∧ Td K H c d3 ∧ d1.fits ∧ d2.fits ∧ d3.fits ∧ RulesPre d1 ∧ SumsPre none d1 d2 d3 ∧
  ∀ b : Bool, (b = true ↔ RelOk d1 d2 d3) → ∀ H', Same H H' → Q (.bl b) H'
theorem scIsRelation : FnScope ["things", "certificate", "values", "factors", "rules", "factor"] ["things", "certificate"] (defScope sIsRelation) := ⟨rfl, rfl, rfl, by decide +kernel, rfl, by decide +kernel, by decide +kernel⟩
theorem scAccepts : FnScope ["claim", "certificate", "word", "things", "check"] ["claim", "certificate"] (defScope sAccepts) := ⟨rfl, rfl, rfl, by decide +kernel, rfl, by decide +kernel, by decide +kernel⟩
/-- a claim with one of some words, as many things behind it as there must be -/
def spAccepts (K : PySem.W.Frag) (SP : Str → Sp) (W : Str → Nat → Prop) : Sp := fun vs H Q E => ∃ (t : Addr) (c : V) (word : Str) (xs : List V), vs = [.ref t, c] ∧ SqT K H t (.str word :: xs) ∧ W word xs.length ∧ xs.length ≤ 10 ∧ ∀ H' p, Same H H' → SqT K H' p xs → SP word [.ref p, c] H' Q E0
/-- what is known of one word -/
structure WordOk (P : Program) (w : World) (K : PySem.W.Frag) (mg : Str → Option Value) (base : Heap) (lv : Nat) (dC dT : Addr) (SP : Str → Sp) (word : Str) (n : Nat) : Prop where
  ex : ∃ (f : Addr) (fd : FuncData), KDct K w dC word (.ref f) ∧ KDct K w dT word (.int (n : Int)) ∧ FnOk P w K mg base CX0 lv f fd ["things", "certificate"] (SP word) ∧ Binds K fd ["things", "certificate"] [] ∧ PySem.W.keepIn K (.ref f) = true
section
variable {P : Program} {w : World} {K : PySem.W.Frag} {mg : Str → Option Value} {base : Heap}
theorem ok_isRelation {C f fW fR fI fU : Addr} {fd fdW fdR fdI fdU : FuncData} {tS : Tok} (F : Fun K "is_relation" "is_relation" sIsRelation f fd) (B : BN mg) (hS : mg "RELATED" = some (.int 6 tS))
    (FW : Fn' P w K mg base 1 "is_whole" fW fdW ["value"] (spIsWhole K)) (FR : Fn' P w K mg base 1 "is_row_of" fR fdR ["value", "many"] (spIsRowOf K)) (FI : Fn' P w K mg base 6 "rules_in" fI fdI ["values"] (spRulesIn K C))
    (FU : Fn' P w K mg base 7 "add_up_in_span" fU fdU ["rules", "factors", "certificate", "end"] (spAddUpInSpan K C)) : FnOk P w K mg base CX0 8 f fd ["things", "certificate"] (spIsRelation K) := by
  refine F.ok scIsRelation (fun vs H Q E h => ?_) (fun cdv A outer s H vs Q E hr h => ?_)
  · obtain ⟨t, v1, v2, c, d1, d2, d3, rfl, _⟩ := h
    rfl
  · obtain ⟨t, v1, v2, c, d1, d2, d3, rfl, ht, h1, h2, h3, f1, f2, f3, hRP, hSP, k⟩ := h
    have nd := scIsRelation.nd
    refine ⟨_, pss_cons (ps_asg (pv 0) (pg_tup rfl (pgs_cons (pg_name (i := 2) nd rfl (Or.inl rfl)) (pgs_cons (pg_name (i := 3) nd rfl (Or.inl rfl)) pgs_nil))))
      (pss_cons (ps_if (PW.pt (pw_or (pt_not (pt_val (pe_callB call_isi (by rfl) B.isinst (by decide +kernel) (pa_cons (pv 2) (pa_cons (pe_bltn (v := .ty "tuple") (by rfl) B.tuple (by decide +kernel) rfl) pa_nil)))))
          (pw_or (pt_not (pt_chain op_le op_le pe_int (pe_callB call_len (by rfl) B.len boot_len (pa_cons (pv 2) pa_nil)) (pe_glob (v := .int 6) rfl hS ⟨_, rfl⟩)))
          (pw_or1 (pt_not (pt_val (pe_call FR.ok (by exact hr.mono (by decide)) (by rfl) FR.m FR.k FR.b .nil pass0 (pa_cons (pv 3) (pa_cons (pe_callB call_len (by rfl) B.len boot_len (pa_cons (pv 2) pa_nil)) pa_nil))))))))) (pss_one (ps_ret pe_bl)) pss_nil)
      (pss_cons (ps_set (i := 4) nd rfl (Or.inl rfl) (pe_call FI.ok (by exact hr.mono (by decide)) (by rfl) FI.m FI.k FI.b .nil pass0 (pa_cons (pv 2) pa_nil)))
      (pss_cons (ps_if (PW.pt (pw_or (pt_cmpR op_isN (pv 4) pe_non (by rfl)) (pw_or1 (pt_not (pt_val (pe_callB (cr_all rfl) (by rfl) B.all (by decide +kernel) (pa_cons (pe_lc (own := [("factor", 5)]) (g := gName 5) (tt := tYes) rfl nd (pi_tup (pv 3)) (blkOk_by (own := [("factor", 5)]) (N := ["things", "certificate", "values", "factors", "rules", "factor"]) (sc := defScope sIsRelation) (by decide +kernel)) (fun _ _ _ _ _ => pg_name (i := 5) nd rfl (Or.inl rfl) (Or.inr rfl)) (fun _ _ _ _ _ => pts_nil)
            (fun _ _ _ _ _ => pe_call FW.ok (by exact hr.mono (by decide)) (by rfl) FW.m FW.k FW.b .nil pass0 (pa_cons (pv 5) pa_nil))) pa_nil))))))) (pss_one (ps_ret pe_bl)) pss_nil)
      (pss_one (ps_ret (pe_call FU.ok (by exact hr) (by rfl) FU.m FU.k FU.b .nil pass0 (pa_cons (pv 4) (pa_cons (pv 3) (pa_cons (pv 1) (pa_cons pe_non pa_nil)))))))))), ?_⟩
    have no : ∀ H', Same H H' → ¬ RelOk d1 d2 d3 → Q (.bl false) H' := fun H' s' h => k false ⟨(fun z => by cases z), fun z => absurd z h⟩ H' s'
    refine ⟨_, rfl, t, _, rfl, ht, rfl, _, _, rfl, _, _, rfl, rfl, ?_⟩
    obtain ⟨ty1, hty1, hki1⟩ := td_isTuple h1
    refine ⟨_, rfl, _, _, ty1, .type "tuple", _, rfl, .ty _, hty1, hki1, _, rfl, ?_⟩
    by_cases c1 : d1.isTuple = true
    case neg =>
      rw [Bool.not_eq_true] at c1
      exact iteT' (by rw [c1]; rfl) (no H (Same.refl H) fun ⟨ds, _, _, _, _, e, _⟩ => by rw [e] at c1; cases c1)
    refine iteF' (by rw [c1]; rfl) ?_
    obtain ⟨ds, rfl⟩ : ∃ ds, d1 = .tup ds := by cases d1 <;> first | exact ⟨_, rfl⟩ | cases c1
    obtain ⟨a1, xs1, rfl, ha1, hx1⟩ := td_tup h1
    have hl1 := tdAll_len hx1
    have dsEq : ∀ {ds'}, Th.tup ds = .tup ds' → ds' = ds := fun e => by injection e with e; exact e.symm
    refine ⟨_, rfl, _, _, rfl, .inr ⟨_, ha1, rfl⟩, _, _, rfl, rfl, _, rfl, ?_⟩
    rw [hl1]
    by_cases c2 : 1 ≤ ds.length
    case neg => exact iteF' (by simp; omega) ⟨_, rfl, iteT (no H (Same.refl H) fun ⟨ds', _, _, _, _, e, h, _⟩ => by rw [dsEq e] at h; exact c2 h)⟩
    refine iteT' (by simp; omega) ⟨_, _, rfl, rfl, _, rfl, ?_⟩
    by_cases c3 : ds.length ≤ 6
    case neg => exact iteT' (by simp; omega) (no H (Same.refl H) fun ⟨ds', _, _, _, _, e, _, h, _⟩ => by rw [dsEq e] at h; exact c3 h)
    refine iteF' (by simp; omega) ?_
    refine ⟨_, rfl, _, rfl, _, _, rfl, .inr ⟨_, ha1, rfl⟩, v2, d2, _, rfl, h2, _, rfl, ?_⟩
    rw [hl1]
    by_cases c4 : d2.isTup (ds.length : Int) = true
    case neg =>
      rw [Bool.not_eq_true] at c4
      refine iteT' (by rw [c4]; rfl) (no H (Same.refl H) fun ⟨ds', _, fs, _, _, e, _, _, _, e2, h, _⟩ => ?_)
      rw [dsEq e] at h
      rw [e2] at c4
      have := of_decide_eq_false (show decide (((fs.map intT).length : Int) = ds.length) = false from c4)
      rw [List.length_map] at this
      omega
    refine iteF' (by rw [c4]; rfl) ?_
    obtain ⟨es, rfl, hel⟩ := isTup_tup c4
    obtain ⟨a2, xs2, rfl, ha2, hx2⟩ := td_tup h2
    have hl2 := tdAll_len hx2
    have fd1 : fitsAll ds := by unfold Th.fits at f1; exact f1.2
    refine ⟨_, rfl, a1, xs1, ds, rfl, ha1, hx1, fd1, by omega, hRP ds rfl, fun Rs hRs H1 L s1 nL hL => ?_, fun hn H1 s1 => ?_⟩
    case refine_2 =>
      refine ⟨_, rfl, rfl, _, rfl, iteT (no H1 s1 fun ⟨ds', _, _, _, _, e, _, _, h, _⟩ => ?_)⟩
      rw [dsEq e, hn] at h; cases h
    refine ⟨_, rfl, rfl, _, rfl, iteF ?_⟩
    have ha2' := same_tup s1 ha2
    refine ⟨_, rfl, a2, rfl, ⟨_, ha2'⟩, fun D nD => ?_⟩
    refine lc_out (walk_tup (xs := xs2)) (fun i Hc => Grow H1 D (((es.take i).map fun d => d.isInt).map V.bl) Hc) (Grow.start nD) (fun i Hc _ g => same_tup g.s ha2') ?_ ?_
    · rintro i x H0 Hc hi g ⟨rfl, hx'⟩
      obtain ⟨d, hd1, hd2⟩ := tdAll_get hx2 hx'
      refine ⟨rfl, _, rfl, x, d, rfl, td_same (s1.trans g.s) hd2, _, g.d, by rw [List.length_map, List.length_map, List.length_take]; exact small1000 (by omega), ?_⟩
      have := g.step nD (V.bl d.isInt)
      rw [map_bl_snoc _ es i d hd1]
      exact this
    intro H3 g3
    rw [hl2, List.take_length] at g3
    refine ⟨D, _, rfl, SqL.of g3.d, _, rfl, ?_⟩
    rw [← ints?_all]
    have s03 := s1.trans g3.s
    cases c5 : ints? es with
    | none =>
      refine iteT (no H3 s03 fun ⟨_, _, fs, _, _, _, _, _, _, e, _⟩ => ?_)
      injection e with e
      rw [e, ints?_of] at c5; cases c5
    | some fs =>
    have ees := ints?_some c5
    subst ees
    have hfl : fs.length = ds.length := by rw [List.length_map] at hel; exact hel
    have ha2n : SqT K H a2 (fs.map V.int) := by rw [← tdAll_ints hx2]; exact ha2
    have fsEq : ∀ {fs'}, rowT fs = rowT fs' → fs' = fs := fun e => by
      injection e with e
      have := congrArg ints? e
      rw [ints?_of, ints?_of] at this
      exact (Option.some.inj this).symm
    refine iteF ⟨_, rfl, _, rfl, _, rfl, c, .non, L, a2, d3, none, Rs, fs, rfl, td_same s03 h3, f3, rfl, hL.same g3.s, by rw [plains?_len hRs]; omega, same_tup s03 ha2n, fun zs rs e hcf => hSP ds Rs fs zs rs rfl hRs rfl hfl e hcf, fun b hb H5 s5 => k b (hb.trans ?_) H5 (s03.trans s5)⟩
    constructor
    · rintro ⟨zs, rs, e, hcf, hok, hz⟩
      exact ⟨ds, Rs, fs, zs, rs, rfl, c2, c3, hRs, rfl, hfl, e, hcf, hok, hz⟩
    · rintro ⟨ds', Rs', fs', zs, rs, e1, _, _, e2, e3, _, e, hcf, hok, hz⟩
      obtain rfl := dsEq e1
      rw [hRs] at e2
      cases e2
      obtain rfl := fsEq e3
      exact ⟨zs, rs, e, hcf, hok, hz⟩
theorem ok_accepts {f dC dT : Addr} {fd : FuncData} {es1 es2 : Array DictEntry} {n1 n2 lv : Nat} {SP : Str → Sp} {W : Str → Nat → Prop} (F : Fun K "accepts" "accepts" sAccepts f fd) (B : BN mg) (hC : mg "CHECKS" = some (.ref dC)) (hT : mg "THINGS" = some (.ref dT))
    (DC : KDict K w dC es1 n1) (hlv : 2 ≤ lv) (hW : ∀ word n, W word n → WordOk P w K mg base lv dC dT SP word n) :
    FnOk P w K mg base CX0 (lv + 1) f fd ["claim", "certificate"] (spAccepts K SP W) := by
  refine F.ok scAccepts (fun vs H Q E h => ?_) (fun cdv A outer s H vs Q E hr h => ?_)
  · obtain ⟨t, c, word, xs, rfl, _⟩ := h
    rfl
  · obtain ⟨t, c, word, xs, rfl, ht, hw, hxl, k⟩ := h
    obtain ⟨fR, fdR, gC, gT, FR, bR, kR⟩ := (hW word xs.length hw).ex
    have nd := scAccepts.nd
    have at0 : atI (V.str word :: xs) 0 = some (V.str word) := atI_nat (j := 0) rfl
    refine ⟨_, pss_cons (ps_if (PW.pt (pw_or (pt_not (pt_val (pe_callB call_isi (by rfl) B.isinst (by decide +kernel) (pa_cons (pv 0) (pa_cons (pe_bltn (v := .ty "tuple") (by rfl) B.tuple (by decide +kernel) rfl) pa_nil)))))
          (pw_or (pt_not (pt_truth (pv 0) (fun _ => rfl))) (pw_or1 (pt_not (pt_val (pe_callB call_isi (by rfl) B.isinst (by decide +kernel) (pa_cons (pe_ix ix_tup (pv 0) pe_int (fun _ _ => rfl)) (pa_cons (pe_bltn (v := .ty "str") (by rfl) B.str (by decide +kernel) rfl) pa_nil))))))))) (pss_one (ps_ret pe_bl)) pss_nil)
      (pss_cons (ps_asg (pv 0) (pg_star rfl (pg_name (i := 2) nd rfl (Or.inl rfl)) (pg_name (i := 3) nd rfl (Or.inl rfl))))
      (pss_cons (ps_if (PW.pt (pw_or (pt_cmpR (op_notIn_kd DC) (pv 2) (pe_glob (v := .ref dC) rfl hC rfl) (by rfl)) (pw_or1 (pt_cmpR op_ne (pe_callB call_len (by rfl) B.len boot_len (pa_cons (pv 3) pa_nil)) (pe_ix ix_kdict (pe_glob (v := .ref dT) rfl hT rfl) (pv 2) (fun _ _ => rfl)) (by rfl))))) (pss_one (ps_ret pe_bl)) pss_nil)
      (pss_cons (ps_set (i := 4) nd rfl (Or.inl rfl) (pe_ix ix_kdict (pe_glob (v := .ref dC) rfl hC rfl) (pv 2) (fun _ _ => rfl)))
      (pss_one (ps_ret (pe_callL (i := 4) FR (by exact hr) rfl (Or.inl rfl) kR bR .nil pass0 (pa_cons (pe_callTy call_tuple_of (by rfl) B.tuple (by decide +kernel) (pa_cons (pv 3) pa_nil)) (pa_cons (pv 1) pa_nil)))))))), ?_⟩
    refine ⟨_, rfl, _, _, .type "tuple", .type "tuple", true, rfl, .ty _, sqT_ty ht, kit_ty (by decide +kernel), _, rfl, iteF ?_⟩
    refine ⟨_, rfl, true, .inr (.inl ⟨_, ht, rfl⟩), iteF ?_⟩
    refine ⟨_, rfl, t, _, _, _, rfl, rfl, ht, at0, _, _, .type "str", .type "str", true, rfl, .ty _, .base (.str _), kit_ty (by decide +kernel), _, rfl, iteF ?_⟩
    refine ⟨_, rfl, t, _, _, rfl, ht, fun D nD => ?_⟩
    have sD := same_new (o := .lst xs) nD
    obtain ⟨es, n, u, g1, g2, g3, g4⟩ := id gC
    refine ⟨_, rfl, word, _, rfl, rfl, g3, _, rfl, iteF ?_⟩
    refine ⟨_, rfl, _, _, rfl, .inl ⟨_, SqL.of upd_same, rfl⟩, _, rfl, dT, word, .int (xs.length : Int), rfl, rfl, gT, rfl, _, rfl, iteF' (by simp) ?_⟩
    refine ⟨_, rfl, dC, word, .ref fR, rfl, rfl, gC, ?_⟩
    refine ⟨rfl, _, rfl, D, _, rfl, .inl ⟨SqL.of upd_same, fun p np => ?_⟩⟩
    have s2 := sD.trans (same_new (o := .tup xs) np)
    exact ⟨_, rfl, k _ p s2 (SqT.of upd_same)⟩
end
end L2.EH
end S_T18
section S_HalvesHits
/- Rows of fractions that make a vector of others. Pure. -/
set_option maxRecDepth 10000
namespace L2.Elim
open L2.Halves
/-- the value of a fraction -/
def fv (p : Int × Int) : Rat := (p.1 : Rat) / (p.2 : Rat)
def fsum (J : Nat → List Int) (j : Nat) : List (Int × Int) → List Nat → Rat
  | p :: ps, n :: ns => fv p * (at0 (J n) j : Rat) + fsum J j ps ns
  | _, _ => 0
def Hits (J : Nat → List Int) (W : Nat) (ps : List (Int × Int)) (ns : List Nat) (place : Nat) : Prop := ∀ j, j < W → fsum J j ps ns = (at0 (J place) j : Rat)
theorem fsum_congr {J J' : Nat → List Int} {j j' : Nat} (h : ∀ n, at0 (J n) j = at0 (J' n) j') : ∀ (ps : List (Int × Int)) (ns : List Nat), fsum J j ps ns = fsum J' j' ps ns
  | p :: ps, n :: ns => by simp only [fsum, h n, fsum_congr h ps ns]
  | [], _ => by simp only [fsum]
  | _ :: _, [] => by simp only [fsum]
theorem hits_app {A B : Nat → List Int} {a b : Nat} (ha : ∀ n, (A n).length = a) {ps : List (Int × Int)} {ns : List Nat} {place : Nat} : Hits (fun n => A n ++ B n) (a + b) ps ns place ↔ Hits A a ps ns place ∧ Hits B b ps ns place := by
  have e1 : ∀ j, j < a → ∀ n, at0 (A n ++ B n) j = at0 (A n) j := fun j hj n => at0_append_left (by rw [ha]; exact hj)
  have e2 : ∀ j n, at0 (A n ++ B n) (a + j) = at0 (B n) j := fun j n => by rw [at0_append_right (by rw [ha]; omega), ha, Nat.add_sub_cancel_left]
  constructor
  · intro h
    refine ⟨fun j hj => ?_, fun j hj => ?_⟩
    · have := h j (by omega)
      rw [fsum_congr (e1 j hj), e1 j hj] at this
      exact this
    · have := h (a + j) (by omega)
      rw [fsum_congr (e2 j), e2 j] at this
      exact this
  · rintro ⟨h1, h2⟩ j hj
    rcases Nat.lt_or_ge j a with q | q
    · rw [fsum_congr (e1 j q), e1 j q]
      exact h1 j q
    · obtain ⟨i, rfl⟩ : ∃ i, j = a + i := ⟨j - a, by omega⟩
      rw [fsum_congr (e2 i), e2 i]
      exact h2 i (by omega)
/-- one fraction changed -/
theorem fsum_set {J : Nat → List Int} {j : Nat} {p' : Int × Int} : ∀ (ps : List (Int × Int)) (ns : List Nat) (k : Nat) (p : Int × Int) (n : Nat), ps[k]? = some p → ns[k]? = some n → fsum J j (ps.set k p') ns = fsum J j ps ns + (fv p' - fv p) * (at0 (J n) j : Rat)
  | q :: ps, m :: ns, 0, p, n, h1, h2 => by
    cases h1; cases h2
    simp only [List.set_cons_zero, fsum]
    grind
  | q :: ps, m :: ns, k + 1, p, n, h1, h2 => by
    have ih := fsum_set (J := J) (j := j) (p' := p') ps ns k p n (by simpa using h1) (by simpa using h2)
    simp only [List.set_cons_succ, fsum, ih]
    grind
  | [], _, k, p, n, h1, _ => by simp at h1
  | _ :: _, [], k, p, n, _, h2 => by simp at h2
theorem fv_frac {c t : Int} (ht : t ≠ 0) : fv (frac c t) = (c : Rat) / (t : Rat) := by
  obtain ⟨h1, h2, h3, -⟩ := frac_spec (t := c) ht
  have e : ((frac c t).1 : Rat) * (t : Rat) = (c : Rat) * ((frac c t).2 : Rat) := by exact_mod_cast h3
  have t0 : (t : Rat) ≠ 0 := by exact_mod_cast ht
  have b0 : ((frac c t).2 : Rat) ≠ 0 := by
    have : (frac c t).2 ≠ 0 := by omega
    exact_mod_cast this
  unfold fv
  grind
theorem fsum_fracs {J : Nat → List Int} {j : Nat} {t : Int} (ht : t ≠ 0) (cs : List Int) : ∀ (ns : List Nat) (o : Nat), o + ns.length = cs.length → (t : Rat) * fsum J j ((cs.drop o).map fun c => frac c t) ns = (csum cs o (ns.map J) j : Rat)
  | [], o, h => by
    have : cs.drop o = [] := List.drop_eq_nil_of_le (by simp at h; omega)
    rw [this]
    simp [fsum, csum]
  | n :: ns, o, h => by
    have ho : o < cs.length := by simp at h; omega
    have ih := fsum_fracs (J := J) (j := j) ht cs ns (o + 1) (by simp at h; omega)
    rw [List.drop_eq_getElem_cons ho]
    simp only [List.map_cons, fsum, csum]
    rw [at0_lt ho, Rat.intCast_add, Rat.intCast_mul, ← ih, fv_frac ht]
    have t0 : (t : Rat) ≠ 0 := by exact_mod_cast ht
    grind
/-- the law's own factors are right -/
theorem hits_factors {J : Nat → List Int} {W R : Nat} {found : List Nat} {ks : List (Nat × List Int)} (h : KO W R (found.map J) ks) (hW : found.length ≤ W) {p i : Nat} (ha : (J p).length = W) (hs : Span (· ∈ ((found.map J).take i).map vec) (vec (J p))) :
    ∃ (t : Int) (cs : List Int), t ≠ 0 ∧ cs.length = found.length ∧ factorsOf W ks (J p) = some (cs.map fun c => frac c t) ∧ Hits J W (cs.map fun c => frac c t) found p ∧ (∀ m, i ≤ m → at0 cs m = 0) := by
  obtain ⟨t, cs, h1, h2, h3, h4, h5⟩ := h.factors (by simpa using hW) ha i hs
  rw [List.length_map] at h2
  refine ⟨t, cs, h1, h2, h3, fun j hj => ?_, h5⟩
  have e := fsum_fracs (J := J) (j := j) h1 cs found 0 (by omega)
  rw [List.drop_zero, ← h4 j hj, Rat.intCast_mul] at e
  have t0 : (t : Rat) ≠ 0 := by exact_mod_cast h1
  grind
/-- one changed fraction makes another sum -/
theorem hits_bent {J : Nat → List Int} {W : Nat} {ps : List (Int × Int)} {ns : List Nat} {place k n : Nat} {p p' : Int × Int} (h1 : ps[k]? = some p) (h2 : ns[k]? = some n) (hv : fv p' ≠ fv p) (hJ : ∃ j, j < W ∧ at0 (J n) j ≠ 0) (h : Hits J W ps ns place) : ¬ Hits J W (ps.set k p') ns place := by
  intro h'
  obtain ⟨j, hj, hz⟩ := hJ
  have e1 := h j hj
  have e2 := h' j hj
  rw [fsum_set ps ns k p n h1 h2, e1] at e2
  have z : (at0 (J n) j : Rat) ≠ 0 := by exact_mod_cast hz
  have hd : fv p' - fv p ≠ 0 := fun e => hv (by grind)
  have : (fv p' - fv p) * (at0 (J n) j : Rat) ≠ 0 := by
    intro e
    rcases Rat.mul_eq_zero.1 e with q | q
    · exact hd q
    · exact z q
  grind
/-- what a kept vector is not -/
theorem KO.not_zero {J : Nat → List Int} {W R : Nat} {found : List Nat} {ks : List (Nat × List Int)} (h : KO W R (found.map J) ks) (hW : found.length ≤ W) (hJ : ∀ n, (J n).length = W) {n : Nat} (hn : n ∈ found) : ∃ j, j < W ∧ at0 (J n) j ≠ 0 := by
  refine Classical.byContradiction fun hc => ?_
  have hz : ∀ j, at0 (J n) j = 0 := fun j => by
    rcases Nat.lt_or_ge j W with q | q
    · exact Classical.byContradiction fun e => hc ⟨j, q, e⟩
    · exact at0_ge (by rw [hJ]; exact q)
  have hf := h.free (by simpa using hW)
  obtain ⟨a, b, e⟩ := List.append_of_mem hn
  refine hf ((a.map J).map vec) (vec (J n)) ((b.map J).map vec) (by rw [e]; simp) ?_
  refine Span.zero.congr fun j => ?_
  show (0 : Rat) = ((at0 (J n) j : Int) : Rat)
  rw [hz j]; rfl
theorem fv_up {t b : Int} (hb : 0 < b) : fv (t + b, b) ≠ fv (t, b) := by
  have b0 : (b : Rat) ≠ 0 := by
    have : b ≠ 0 := by omega
    exact_mod_cast this
  intro h
  have : ((t + b : Int) : Rat) / (b : Rat) = (t : Rat) / (b : Rat) := h
  rw [Rat.intCast_add] at this
  grind
theorem fv_wide {t b : Int} (hb : 0 < b) (ht : t ≠ 0) : fv (frac t (b + (t.natAbs : Int) + 1)) ≠ fv (t, b) := by
  have b0 : (b : Rat) ≠ 0 := by
    have : b ≠ 0 := by omega
    exact_mod_cast this
  have c0 : b + (t.natAbs : Int) + 1 ≠ 0 := by omega
  have t0 : (t : Rat) ≠ 0 := by exact_mod_cast ht
  rw [fv_frac c0]
  intro h
  have h : (t : Rat) / ((b + (t.natAbs : Int) + 1 : Int) : Rat) = (t : Rat) / (b : Rat) := h
  have c0' : (((b + (t.natAbs : Int) + 1 : Int)) : Rat) ≠ 0 := by exact_mod_cast c0
  have e : (((b + (t.natAbs : Int) + 1 : Int)) : Rat) = (b : Rat) := by grind
  have e2 : b + (t.natAbs : Int) + 1 = b := by exact_mod_cast e
  omega
theorem fv_half {b : Int} : fv (1, 2) ≠ fv (0, b) := by
  intro h
  have h : ((1 : Int) : Rat) / ((2 : Int) : Rat) = ((0 : Int) : Rat) / (b : Rat) := h
  have e : ((0 : Int) : Rat) = 0 := rfl
  have e1 : ((1 : Int) : Rat) = 1 := rfl
  have e2 : ((2 : Int) : Rat) = 2 := rfl
  rw [e, e1, e2] at h
  grind
end L2.Elim
end S_HalvesHits
section S_W1
set_option exponentiation.threshold 20000
set_option maxRecDepth 100000
set_option maxHeartbeats 4000000
namespace L2.EH
open PySem PySem.Spec PyProof.Rows StX
open L2.Elim (at0 fv fsum Hits)
/-! ### sums of fractions -/
theorem shr_foldl_dvd (T : Nat) : ∀ (ps : List (Int × Int)) (n : Nat), n ∣ T → (∀ p, p ∈ ps → p.2.natAbs ∣ T) → ps.foldl (fun n p => Nat.lcm n p.2.natAbs) n ∣ T
  | [], n, hn, _ => hn
  | p :: ps, n, hn, h => shr_foldl_dvd T ps _ (Nat.lcm_dvd hn (h p (by simp))) fun q hq => h q (by simp [hq])
theorem shr_dvd {ps : List (Int × Int)} {T : Nat} (h : ∀ p, p ∈ ps → p.2.natAbs ∣ T) : shr ps ∣ T := shr_foldl_dvd T ps 1 (Nat.one_dvd _) h
theorem dvd_foldl : ∀ (ps : List (Int × Int)) (n : Nat), n ∣ ps.foldl (fun n p => Nat.lcm n p.2.natAbs) n ∧ ∀ p, p ∈ ps → p.2.natAbs ∣ ps.foldl (fun n p => Nat.lcm n p.2.natAbs) n
  | [], n => ⟨Nat.dvd_refl _, fun p h => by cases h⟩
  | q :: ps, n => by
    have ih := dvd_foldl ps (Nat.lcm n q.2.natAbs)
    refine ⟨Nat.dvd_trans (Nat.dvd_lcm_left _ _) ih.1, fun p hp => ?_⟩
    rcases List.mem_cons.1 hp with e | e
    · rw [e]; exact Nat.dvd_trans (Nat.dvd_lcm_right _ _) ih.1
    · exact ih.2 p e
theorem dvd_shr {ps : List (Int × Int)} {p : Int × Int} (h : p ∈ ps) : p.2.natAbs ∣ shr ps := (dvd_foldl ps 1).2 p h
def sumQ (J : Nat → List Int) (j : Nat) : Sel → Rat
  | [] => 0
  | x :: z => fv x.1 * (at0 (J x.2) j : Rat) + sumQ J j z
theorem sumQ_eq {S : Int} {J : Nat → List Int} {j : Nat} : ∀ z : Sel, (∀ x, x ∈ z → 0 < x.1.2 ∧ x.1.2 ∣ S) → (((List.zipWith (fun f (x : (Int × Int) × Nat) => f * at0 (J x.2) j) (z.map fun x => x.1.1 * (S / x.1.2)) z).sum : Int) : Rat) = (S : Rat) * sumQ J j z
  | [], _ => by simp [sumQ]
  | x :: z, h => by
    have ih := sumQ_eq (S := S) (J := J) (j := j) z fun y hy => h y (by simp [hy])
    obtain ⟨h1, h2⟩ := h x (by simp)
    simp only [List.map_cons, List.zipWith_cons_cons, List.sum_cons, sumQ]
    obtain ⟨c, hc⟩ := h2
    have b0 : x.1.2 ≠ 0 := by omega
    have e : S / x.1.2 = c := by rw [hc, Int.mul_ediv_cancel_left _ b0]
    have b0' : (x.1.2 : Rat) ≠ 0 := by exact_mod_cast b0
    have hc' : (S : Rat) = (x.1.2 : Rat) * (c : Rat) := by rw [hc, Rat.intCast_mul]
    rw [Rat.intCast_add, ih, e, Rat.intCast_mul, Rat.intCast_mul]
    unfold fv
    grind
theorem sumQ_sel {J : Nat → List Int} {j : Nat} : ∀ (ps : List (Int × Int)) (ns : List Nat), sumQ J j (selP (List.zip ps ns)) = fsum J j ps ns
  | p :: ps, n :: ns => by
    have ih := sumQ_sel (J := J) (j := j) ps ns
    simp only [List.zip_cons_cons, fsum]
    unfold selP at ih ⊢
    by_cases h : p = (0, 1)
    · rw [List.filter_cons_of_neg (by simp [h]), ih, h]
      have : fv ((0, 1) : Int × Int) = 0 := by
        show ((0 : Int) : Rat) / ((1 : Int) : Rat) = 0
        have e : ((0 : Int) : Rat) = 0 := rfl
        rw [e]; grind
      rw [this]; grind
    · rw [List.filter_cons_of_pos (by simpa using h)]
      simp only [sumQ, ih]
  | [], _ => by simp [selP, sumQ, fsum]
  | _ :: _, [] => by simp [selP, sumQ, fsum]
theorem right_iff {ps : Frow} {ns : List Nat} {J : Nat → List Int} {place W : Nat} (hp : ∀ p, p ∈ ps → 0 < p.2) : RightB ps ns J place W ↔ Hits J W ps ns place := by
  have hz : ∀ x, x ∈ selP (List.zip ps ns) → x.1 ∈ ps := fun x hx => (List.of_mem_zip (List.mem_filter.1 hx).1).1
  have hpos : 0 < shS (selP (List.zip ps ns)) := shr_pos fun p h => by
    obtain ⟨x, hx, rfl⟩ := List.mem_map.1 h
    exact hp _ (hz x hx)
  have hq := fun (J : Nat → List Int) (j : Nat) => sumQ_eq (S := ((shS (selP (List.zip ps ns)) : Nat) : Int)) (J := J) (j := j) (selP (List.zip ps ns)) fun x hx => ⟨hp _ (hz x hx), by
    have h1 : x.1.2.natAbs ∣ shS (selP (List.zip ps ns)) := dvd_shr (List.mem_map.2 ⟨x, hx, rfl⟩)
    exact Int.natAbs_dvd_natAbs.1 (by simpa using h1)⟩
  have s0 : (((shS (selP (List.zip ps ns)) : Nat) : Int) : Rat) ≠ 0 := by
    have : ((shS (selP (List.zip ps ns)) : Nat) : Int) ≠ 0 := by omega
    exact_mod_cast this
  have key : ∀ j, totS (selP (List.zip ps ns)) J j = at0 (J place) j * ((shS (selP (List.zip ps ns)) : Nat) : Int) ↔ fsum J j ps ns = (at0 (J place) j : Rat) := fun j => by
    have e := hq J j
    rw [sumQ_sel] at e
    have e2 : (totS (selP (List.zip ps ns)) J j : Rat) = (((shS (selP (List.zip ps ns)) : Nat) : Int) : Rat) * fsum J j ps ns := e
    constructor
    · intro h
      rw [h, Rat.intCast_mul] at e2
      grind
    · intro h
      rw [h] at e2
      have e3 : (totS (selP (List.zip ps ns)) J j : Rat) = ((at0 (J place) j * ((shS (selP (List.zip ps ns)) : Nat) : Int) : Int) : Rat) := by rw [Rat.intCast_mul, e2]; grind
      exact_mod_cast e3
  exact ⟨fun h j hj => (key j).1 (h j hj), fun h j hj => (key j).2 (h j hj)⟩
/-! ### rules of integers as plain rules -/
theorem shr_ones : ∀ r : List Int, shr (ones r) = 1 := fun r => Nat.dvd_one.1 (shr_dvd fun p hp => by
  obtain ⟨z, -, rfl⟩ := List.mem_map.1 hp
  exact Nat.dvd_refl _)
theorem ones_take (r : List Int) (i : Nat) : (ones r).take i = ones (r.take i) := by unfold ones; rw [List.map_take]
theorem prods_ones : ∀ (r ws : List Int) (i : Nat), (prods (shRow 1 i (ones r)) ws).sum = dotp r (ws.drop i)
  | [], ws, i => by simp [ones, shRow, prods, dotp]
  | z :: r, ws, i => by
    have ih := prods_ones r ws (i + 1)
    have e : dotp (z :: r) (ws.drop i) = z * ws.getD i 0 + dotp r (ws.drop (i + 1)) := by
      by_cases h : i < ws.length
      · rw [List.drop_eq_getElem_cons h, dotp_cons, List.getD_eq_getElem?_getD, List.getElem?_eq_getElem h]; rfl
      · rw [List.drop_eq_nil_of_le (by omega), List.drop_eq_nil_of_le (by omega), List.getD_eq_getElem?_getD, List.getElem?_eq_none (by omega)]
        simp [dotp]
    rw [e, ← ih]
    unfold ones
    simp only [List.map_cons, shRow]
    by_cases h : z = 0
    · subst h
      rw [if_neg (by simp)]
      simp [ones]
    · rw [if_pos (by simpa using h)]
      simp [prods, ones]
theorem rowTimes_ones (r ws : List Int) : rowTimes (shRow ((shr (ones r) : Nat) : Int) 0 (ones r)) ws = dotp r ws := by
  rw [shr_ones]
  have := prods_ones r ws 0
  rw [List.drop_zero] at this
  exact this
theorem lowT_one (x : Int) : lowT x 1 = (x, 1) := by
  unfold lowT
  simp
theorem stepPairs_ones (M : List (List Int)) (ws : List Int) : stepPairs (M.map ones) ws 1 = ones (imageOf M ws) := by
  unfold stepPairs imageOf ones
  rw [List.map_map, List.map_map]
  refine List.map_congr_left fun r _ => ?_
  show lowT (rowTimes (shRow ((shr (ones r) : Nat) : Int) 0 (ones r)) ws) (((shr (ones r) : Nat) : Int) * 1) = _
  rw [rowTimes_ones, shr_ones]
  exact lowT_one _
theorem stepV_ones (M : List (List Int)) (ws : List Int) : stepV (M.map ones) ws 1 = (imageOf M ws, 1) := by
  unfold stepV
  rw [stepPairs_ones, shr_ones]
  unfold ones
  rw [List.map_map]
  have : ((fun p : Int × Int => p.1 * (((1 : Nat) : Int) / p.2)) ∘ fun z : Int => (z, (1 : Int))) = id := funext fun z => by
    show z * (1 / 1) = z
    simp
  rw [this, List.map_id]; rfl
theorem halfR_plain (L : LR) (d : Int) : halfR (plainOf L) d = (halfOf L d).map ones := by
  unfold halfR halfOf plainOf
  split <;> rfl
theorem valQ_plain (L : LR) (z : Nat) : valQ (plainOf L) z = (linesAt L z, 1) := by
  induction z using Nat.strongRecOn with
  | ind z ih =>
    rcases Nat.eq_zero_or_pos z with e | e
    · subst e
      rw [valQ_zero, linesAt_zero]; rfl
    · rw [valQ_pos _ e, linesAt_pos _ e, ih (z / 2) (by omega), halfR_plain, stepV_ones]
theorem JR_plain (L : LR) : JR (plainOf L) = linesAt L := funext fun z => by unfold JR; rw [valQ_plain]
theorem toldV_plain (L : LR) (ws : List Int) : toldV (plainOf L) (ws, 1) = (dotp L.told ws, 1) := by
  unfold toldV
  show (rowTimes (shRow ((shr (ones L.told) : Nat) : Int) 0 (ones L.told)) ws, ((shr (ones L.told) : Nat) : Int) * 1) = _
  rw [rowTimes_ones, shr_ones]; rfl
theorem lines_small {L : LR} {n b : Nat} (h : LRB L n b) {k z : Nat} (hz : z < 2 ^ k) : (linesAt L z).length = n ∧ ∀ y, y ∈ linesAt L z → y.natAbs < 2 ^ (b + k * (10 + b)) := by
  have hl := bdig_len k z hz
  have h1 := lines_ok h _ (bdig z) rfl
  refine ⟨h1.1, fun y hy => Nat.lt_of_lt_of_le (h1.2 y hy) (Nat.pow_le_pow_right (by decide) ?_)⟩
  have := Nat.mul_le_mul_right (10 + b) hl
  omega
theorem rowB_ones {r : List Int} {n b : Nat} (hn : n ≤ 900) (hb : b ≤ 1000) (h : r.length = n ∧ ∀ z, z ∈ r → z.natAbs < 2 ^ b) : RowB (ones r) := by
  refine ⟨by unfold ones; rw [List.length_map, h.1]; exact hn, fun i => ?_, fun p hp => ?_⟩
  · rw [ones_take, shr_ones]; decide
  · obtain ⟨z, hz, rfl⟩ := List.mem_map.1 hp
    exact ⟨by show (1 : Int).natAbs < 2 ^ 60; decide, Nat.lt_of_lt_of_le (h.2 z hz) (Nat.pow_le_pow_right (by decide) hb)⟩
theorem plainB_of {L : LR} {n b : Nat} (h : LRB L n b) : PlainB (plainOf L) := by
  have hb := h.bits.2
  have hn := h.few
  have mm : ∀ {M : List (List Int)}, (∀ r, r ∈ M → r.length = n ∧ ∀ z, z ∈ r → z.natAbs < 2 ^ b) → ∀ r, r ∈ M.map ones → RowB r := fun hM r hr => by
    obtain ⟨q, hq, rfl⟩ := List.mem_map.1 hr
    exact rowB_ones hn hb (hM q hq)
  exact ⟨by show (L.even.map ones).length ≤ 900; rw [List.length_map, h.e]; exact hn, by show (L.odd.map ones).length ≤ 900; rw [List.length_map, h.o]; exact hn, by show L.heads.length ≤ 900; rw [h.h.1]; exact hn, mm h.er, mm h.or, rowB_ones hn hb h.t,
    fun z hz => Nat.lt_of_lt_of_le (h.h.2 z hz) (Nat.pow_le_pow_right (by decide) hb)⟩
theorem steps_of {L : LR} {n b : Nat} (h : LRB L n b) (hb : b ≤ 100) {k z : Nat} (hk : k ≤ 1100) (hz : z < 2 ^ k) : Steps (plainOf L) z (b + k * (10 + b)) := by
  rintro y hy ⟨j, rfl⟩
  have hlt : z / 2 ^ j / 2 < 2 ^ k := Nat.lt_of_le_of_lt (Nat.le_trans (Nat.div_le_self _ _) (Nat.div_le_self _ _)) hz
  rw [valQ_plain, halfR_plain]
  have hs := lines_small h hlt
  have hh := h.half (((z / 2 ^ j) % 2 : Nat) : Int)
  have hkb : k * (10 + b) ≤ 1100 * 110 := Nat.mul_le_mul hk (by omega)
  refine ⟨by rw [List.length_map, hh.1]; exact h.few, fun r hr => ?_, by rw [hs.1]; exact h.few, by show (0 : Int) < 1; decide, by show (1 : Int).natAbs < 2 ^ 60; decide, by have := h.bits.1; omega, hs.2, by omega, fun i => ?_⟩
  · obtain ⟨q, hq, rfl⟩ := List.mem_map.1 hr
    refine ⟨rowB_ones h.few h.bits.2 (hh.2 q hq), fun p hp => ?_, ?_⟩
    · obtain ⟨x, -, rfl⟩ := List.mem_map.1 hp
      exact (by decide : (0 : Int) < 1)
    · unfold ones
      rw [List.length_map, (hh.2 q hq).1, hs.1]
      exact Nat.le_refl _
  · rw [stepPairs_ones, ones_take, shr_ones]; decide
theorem ones_ok (r : List Int) : (ones r).all fracOk = true := by
  rw [List.all_eq_true]
  intro p hp
  obtain ⟨z, -, rfl⟩ := List.mem_map.1 hp
  unfold fracOk
  simp
theorem ofD_mat (M : List (List (Int × Int))) : ofD (matD M) = matT M := by
  show Th.tup (ofDs _) = _
  rw [ofDs_map]
  unfold matT
  congr 1
  exact List.map_congr_left fun r _ => ofD_prow r
theorem ofD_plain (R : Plain) : ofD (plainD R) = .tup [matT R.even, matT R.odd, rowT R.firsts, prowT R.told] := by
  show Th.tup [ofD (matD R.even), ofD (matD R.odd), ofD (rowD R.firsts), ofD (prowD R.told)] = _
  rw [ofD_mat, ofD_mat, ofD_row, ofD_prow]
theorem shape_of {L : LR} {n b : Nat} (h : LRB L n b) (hn : n ≤ 100) : (ofD (plainD (plainOf L))).shape? = some (plainOf L) := by
  rw [ofD_plain]
  have hl : (List.map prowT (plainOf L).even).length = n := by rw [List.length_map]; show (L.even.map ones).length = n; rw [List.length_map, h.e]
  have mm : ∀ {M : List (List Int)}, (∀ r, r ∈ M → r.length = n ∧ ∀ z, z ∈ r → z.natAbs < 2 ^ b) → ∀ r, r ∈ M.map ones → r.all fracOk = true ∧ (r.length : Int) = ((n : Nat) : Int) := fun hM r hr => by
    obtain ⟨q, hq, rfl⟩ := List.mem_map.1 hr
    exact ⟨ones_ok q, by unfold ones; rw [List.length_map, (hM q hq).1]⟩
  have e1 : (Th.tup (List.map prowT (plainOf L).even)).square? ((n : Nat) : Int) = some (plainOf L).even := square?_of (mm h.er) (by show ((L.even.map ones).length : Int) = _; rw [List.length_map, h.e])
  have e2 : (matT (plainOf L).odd).square? ((n : Nat) : Int) = some (plainOf L).odd := square?_of (mm h.or) (by show ((L.odd.map ones).length : Int) = _; rw [List.length_map, h.o])
  have e3 : (rowT (plainOf L).firsts).irow? ((n : Nat) : Int) = some (plainOf L).firsts := irow?_of (by show (L.heads.length : Int) = _; rw [h.h.1])
  have e4 : (prowT (plainOf L).told).frow? ((n : Nat) : Int) = some (plainOf L).told := frow?_of (ones_ok _) (by show ((ones L.told).length : Int) = _; unfold ones; rw [List.length_map, h.t.1])
  show (if (List.map prowT (plainOf L).even).length ≤ 100 then shapeOf (List.map prowT (plainOf L).even) (matT (plainOf L).odd) (rowT (plainOf L).firsts) (prowT (plainOf L).told) else none) = _
  rw [if_pos (by omega)]
  unfold shapeOf
  rw [hl, e1, e2, e3, e4]
theorem fits_of {L : LR} (hf : FitsL L.even L.heads) : fitsB (plainOf L).even (plainOf L).firsts = true := by
  unfold fitsB
  rw [List.all_eq_true]
  intro p hp
  obtain ⟨i, hi, e⟩ := List.getElem_of_mem hp
  have hi2 : i < (plainOf L).even.length ∧ i < (plainOf L).firsts.length := by
    rw [List.length_zip] at hi
    omega
  have h1 : i < L.even.length := by
    have := hi2.1
    rwa [show (plainOf L).even.length = L.even.length by show (L.even.map ones).length = _; simp] at this
  have h2 : i < L.heads.length := hi2.2
  have ep : p = (ones L.even[i], L.heads[i]) := by
    rw [← e, List.getElem_zip]
    show ((L.even.map ones)[i]'(by simpa using h1), L.heads[i]) = _
    rw [List.getElem_map]
  rw [ep]
  refine decide_eq_true ?_
  show rowTimes (shRow ((shr (ones L.even[i]) : Nat) : Int) 0 (ones L.even[i])) L.heads = L.heads[i] * ((shr (ones L.even[i]) : Nat) : Int)
  rw [rowTimes_ones, shr_ones, hf i _ _ (List.getElem?_eq_getElem h1) (List.getElem?_eq_getElem h2)]
  simp
theorem plain_of {L : LR} {n b : Nat} (h : LRB L n b) (hn : n ≤ 100) (hf : FitsL L.even L.heads) : (ofD (plainD (plainOf L))).plain? = some (plainOf L) := by
  unfold Th.plain?
  rw [shape_of h hn]
  dsimp only
  rw [if_pos (fits_of hf)]
theorem plains_of : ∀ (Ls : List LR), (∀ L, L ∈ Ls → (∃ n b, LRB L n b ∧ n ≤ 100) ∧ FitsL L.even L.heads) → plains? (Ls.map fun L => ofD (plainD (plainOf L))) = some (Ls.map plainOf)
  | [], _ => rfl
  | L :: Ls, h => by
    obtain ⟨⟨n, b, h1, h2⟩, h3⟩ := h L (by simp)
    have ih := plains_of Ls fun M hM => h M (by simp [hM])
    simp only [List.map_cons, plains?]
    rw [plain_of h1 h2 h3, ih]
end L2.EH
end S_W1
section S_HalvesLess
/- Which numbers a span has: they are told by the values alone. Pure. -/
set_option maxRecDepth 10000
namespace L2.Elim
open L2.Halves
/-- a sum of fractions whose far numbers have no part is a combination of the near ones -/
theorem fsum_span {J : Nat → List Int} {S : Vec Nat → Prop} : ∀ (ps : List (Int × Int)) (ns : List Nat), (∀ (i : Nat) p n, ps[i]? = some p → ns[i]? = some n → S (vec (J n)) ∨ p = (0, 1)) → Span S (fun j => fsum J j ps ns)
  | p :: ps, n :: ns, h => by
    have ih := fsum_span (J := J) ps ns fun i q m e1 e2 => h (i + 1) q m (by simpa using e1) (by simpa using e2)
    rcases h 0 p n rfl rfl with q | q
    · exact (Span.more (fv p) _ _ q ih).congr fun j => rfl
    · subst q
      refine ih.congr fun j => ?_
      have : fv ((0, 1) : Int × Int) = 0 := by
        show ((0 : Int) : Rat) / ((1 : Int) : Rat) = 0
        have e : ((0 : Int) : Rat) = 0 := rfl
        rw [e]; grind
      simp only [fsum]
      rw [this]; grind
  | [], _, _ => Span.zero.congr fun j => by simp only [fsum]
  | _ :: _, [], _ => Span.zero.congr fun j => by simp only [fsum]
theorem fsum_far {J : Nat → List Int} {W j : Nat} (hJ : ∀ n, (J n).length = W) (hj : W ≤ j) : ∀ (ps : List (Int × Int)) (ns : List Nat), fsum J j ps ns = 0
  | p :: ps, n :: ns => by
    have ih := fsum_far hJ hj ps ns
    simp only [fsum]
    rw [ih, at0_ge (by rw [hJ]; exact hj)]
    have e : ((0 : Int) : Rat) = 0 := rfl
    rw [e]; grind
  | [], _ => by simp only [fsum]
  | _ :: _, [] => by simp only [fsum]
theorem hits_span {J : Nat → List Int} {W : Nat} (hJ : ∀ n, (J n).length = W) {ps : List (Int × Int)} {ns : List Nat} {place : Nat} {S : Vec Nat → Prop} (h : Hits J W ps ns place) (hS : ∀ (i : Nat) p n, ps[i]? = some p → ns[i]? = some n → S (vec (J n)) ∨ p = (0, 1)) : Span S (vec (J place)) := by
  refine (fsum_span ps ns hS).congr fun j => ?_
  rcases Nat.lt_or_ge j W with q | q
  · exact h j q
  · rw [fsum_far hJ q, vec_zero (hJ _) q]
theorem char_unique {J : Nat → List Int} {A B : List Nat} (hA : Char J A) (hB : Char J B) : ∀ n, n ∈ A ↔ n ∈ B := by
  intro n
  induction n using Nat.strongRecOn with
  | ind n ih =>
    rw [hA n, hB n]
    have e1 : (n = 0 ∨ n / 2 ∈ A) ↔ (n = 0 ∨ n / 2 ∈ B) := by
      by_cases h : n = 0
      · simp [h]
      · simp only [h, false_or]
        exact ih (n / 2) (by omega)
    have e2 : Span (fun s => ∃ m, m ∈ A ∧ m < n ∧ s = vec (J m)) (vec (J n)) ↔ Span (fun s => ∃ m, m ∈ B ∧ m < n ∧ s = vec (J m)) (vec (J n)) :=
      ⟨fun h => h.mono fun s ⟨m, h1, h2, h3⟩ => ⟨m, (ih m h2).1 h1, h2, h3⟩, fun h => h.mono fun s ⟨m, h1, h2, h3⟩ => ⟨m, (ih m h2).2 h1, h2, h3⟩⟩
    rw [e1, e2]
/-- a right span of more values, found by fewer of them: its numbers are those that all values have -/
theorem char_more {A B : Nat → List Int} {a b : Nat} (ha : ∀ n, (A n).length = a) (hb : ∀ n, (B n).length = b) {F : List Nat} (hF : Char A F)
    (h0 : 0 ∈ F ∨ ∀ j, at0 (A 0 ++ B 0) j = 0)
    (hs : ∀ f, f ∈ F → ∀ d, d < 2 → Span (fun s => ∃ m, m ∈ F ∧ m ≤ 2 * f + d ∧ s = vec (A m ++ B m)) (vec (A (2 * f + d) ++ B (2 * f + d)))) : Char (fun n => A n ++ B n) F := by
  have proj : ∀ {T : Nat → Prop} {n : Nat}, Span (fun s => ∃ m, T m ∧ s = vec (A m ++ B m)) (vec (A n ++ B n)) → Span (fun s => ∃ m, T m ∧ s = vec (A m)) (vec (A n)) := fun {T n} h => by
    have e : ∀ n j, vec (A n ++ B n) (if j < a then j else a + b) = vec (A n) j := fun n j => by
      unfold vec
      split
      · rw [at0_append_left (by rw [ha]; assumption)]
      · rw [at0_ge (by rw [List.length_append, ha, hb]; exact Nat.le_refl _), at0_ge (by rw [ha]; omega)]
    have h1 := h.at (T := fun s => ∃ m, T m ∧ s = vec (A m)) (fun j : Nat => if j < a then j else a + b) fun s ⟨m, hm, es⟩ => by
      refine (Span.of ⟨m, hm, rfl⟩).congr fun j => ?_
      rw [es, e m j]
    exact h1.congr fun j => e n j
  intro n
  constructor
  · intro hn
    obtain ⟨h1, h2⟩ := (hF n).1 hn
    refine ⟨h1, fun h => h2 ?_⟩
    have h3 := proj (T := fun m => m ∈ F ∧ m < n) (n := n) (h.mono fun s ⟨m, q1, q2, q3⟩ => ⟨m, ⟨q1, q2⟩, q3⟩)
    exact h3.mono fun s ⟨m, ⟨q1, q2⟩, q3⟩ => ⟨m, q1, q2, q3⟩
  · rintro ⟨h1, h2⟩
    refine Classical.byContradiction fun hn => h2 ?_
    by_cases e : n = 0
    · subst e
      rcases h0 with q | q
      · exact absurd q hn
      · refine Span.zero.congr fun j => ?_
        show (0 : Rat) = ((at0 (A 0 ++ B 0) j : Int) : Rat)
        rw [q j]; rfl
    · have hf : n / 2 ∈ F := by
        rcases h1 with q | q
        · exact absurd q e
        · exact q
      have := hs (n / 2) hf (n % 2) (Nat.mod_lt _ (by decide))
      rw [Nat.div_add_mod] at this
      refine this.mono fun s ⟨m, q1, q2, q3⟩ => ⟨m, q1, ?_, q3⟩
      rcases Nat.lt_or_ge m n with q | q
      · exact q
      · have : m = n := by omega
        subst this; exact absurd q1 hn
/-- at the end 0 is found, or all values at 0 are 0 -/
theorem Search.zero_end {J : Nat → List Int} {W R : Nat} {found : List Nat} {ks : List (Nat × List Int)} (h : Search J W R none found ks []) : found.take 1 = [0] ∨ ∀ j, at0 (J 0) j = 0 := by
  have hs := (List.pairwise_append.1 h.asc).1
  rcases h.zero with q | ⟨l, q, _⟩ | q
  · simp at q
  · cases q
  · cases hf : found with
    | nil =>
      right
      intro j
      have h1 : Span (fun _ => False) (vec (J 0)) := q.mono fun s ⟨m, h1, _, _⟩ => by rw [hf] at h1; cases h1
      have h2 := h1.empty j
      have h3 : ((at0 (J 0) j : Int) : Rat) = 0 := h2
      exact_mod_cast h3
    | cons n l =>
      by_cases h0 : n = 0
      · left; rw [h0]; rfl
      · right
        intro j
        have h1 : Span (fun _ => False) (vec (J 0)) := q.mono fun s ⟨m, h1, h2, _⟩ => by
          have hm : m = 0 := by omega
          subst hm
          rw [hf] at h1 hs
          rcases List.mem_cons.1 h1 with e | e
          · exact h0 e.symm
          · have := (List.pairwise_cons.1 hs).1 0 e
            omega
        have h2 := h1.empty j
        have h3 : ((at0 (J 0) j : Int) : Rat) = 0 := h2
        exact_mod_cast h3
end L2.Elim
end S_HalvesLess
section S_W2
set_option exponentiation.threshold 20000
set_option maxRecDepth 100000
set_option maxHeartbeats 4000000
namespace L2.EH
open PySem PySem.Spec PyProof.Rows StX
open L2.Elim (at0 fv fsum Hits KO Search beyond Settled factorsOf frac cleared aimRow upTo zeroTo)
/-! ### the values of all lines -/
def LRok (Ls : List LR) : Prop := ∀ L, L ∈ Ls → ∃ n b, LRB L n b ∧ b ≤ 100
def widthOf (Ls : List LR) : Nat := (Ls.map fun L => L.heads.length).sum
theorem lines_len {L : LR} {n b : Nat} (h : LRB L n b) (z : Nat) : (linesAt L z).length = L.heads.length := by
  rw [(lines_small h (Nat.lt_two_pow_self (n := z))).1, h.h.1]
theorem joint_cons (L : LR) (Ls : List LR) : jointAt (L :: Ls) = fun z => linesAt L z ++ jointAt Ls z := rfl
theorem joint_len : ∀ {Ls : List LR}, LRok Ls → ∀ z, (jointAt Ls z).length = widthOf Ls
  | [], _, z => rfl
  | L :: Ls, h, z => by
    obtain ⟨n, b, hB, _⟩ := h L (by simp)
    have ih := joint_len (Ls := Ls) (fun M hM => h M (by simp [hM])) z
    show (linesAt L z ++ jointAt Ls z).length = (L.heads.length :: Ls.map fun L => L.heads.length).sum
    rw [List.length_append, lines_len hB, ih, List.sum_cons]; rfl
theorem hits_joint {ps : List (Int × Int)} {ns : List Nat} {place : Nat} : ∀ {Ls : List LR}, LRok Ls → ((∀ L, L ∈ Ls → Hits (linesAt L) L.heads.length ps ns place) ↔ Hits (jointAt Ls) (widthOf Ls) ps ns place)
  | [], _ => ⟨fun _ j hj => absurd hj (Nat.not_lt_zero _), fun _ L h => by cases h⟩
  | L :: Ls, h => by
    obtain ⟨n, b, hB, _⟩ := h L (by simp)
    have ih := hits_joint (ps := ps) (ns := ns) (place := place) (Ls := Ls) fun M hM => h M (by simp [hM])
    have e : Hits (jointAt (L :: Ls)) (widthOf (L :: Ls)) ps ns place ↔ Hits (linesAt L) L.heads.length ps ns place ∧ Hits (jointAt Ls) (widthOf Ls) ps ns place := by
      rw [joint_cons]
      exact L2.Elim.hits_app (lines_len hB)
    rw [e, ← ih]
    exact ⟨fun h => ⟨h L (by simp), fun M hM => h M (by simp [hM])⟩, fun h M hM => by
      rcases List.mem_cons.1 hM with q | q
      · rw [q]; exact h.1
      · exact h.2 M q⟩
/-! ### sizes of fractions -/
def Tame (B : Nat) (ps : Frow) : Prop := (∃ T : Nat, 0 < T ∧ T < 2 ^ B ∧ ∀ p, p ∈ ps → p.2.natAbs ∣ T) ∧ ∀ p, p ∈ ps → 0 < p.2 ∧ p.1.natAbs < 2 ^ B ∧ fracOk p = true
def Fine (ps : Frow) : Prop := (∃ T : Nat, 0 < T ∧ T < 2 ^ 13400 ∧ ∀ p, p ∈ ps → p.2.natAbs ∣ T) ∧ ∀ p, p ∈ ps → 0 < p.2 ∧ p.2.natAbs < 2 ^ 9000 ∧ p.1.natAbs < 2 ^ 9000
theorem frac_okay {c t : Int} (ht : t ≠ 0) : fracOk (frac c t) = true := by
  obtain ⟨h1, -, -, h4, -⟩ := L2.Elim.frac_spec (t := c) ht
  unfold fracOk
  rw [Bool.and_eq_true]
  exact ⟨decide_eq_true (by omega), decide_eq_true h4⟩
theorem factors_tame {W R : Nat} {vs : List (List Int)} {ks : Kept2} {aim : List Int} {ps : List (Int × Int)} (h : KO W R vs ks) (hW : vs.length ≤ W) (ha : aim.length = W) (hb : ∀ z, z ∈ aim → z.natAbs < 2 ^ R) (hR : 0 < R) (e : factorsOf W ks aim = some ps) : Tame (2 ^ ks.length * (R + 1)) ps ∧ ps.length = ks.length := by
  have hlen := L2.Elim.aimRow_len ha
  have hsm := h.small (r := aimRow W aim) hW hlen fun z hz => by
    unfold aimRow at hz
    rcases List.mem_append.1 hz with q | q
    · rcases List.mem_append.1 q with q | q
      · exact hb z q
      · rw [(List.mem_replicate.1 q).2]; exact Nat.pow_pos (by decide)
    · rw [List.mem_singleton.1 q]
      exact Nat.one_lt_two_pow (by omega)
  have ht := (h.cl hW ha).t
  have hcl := (h.cl hW ha).len
  have hat : ∀ i, (at0 (cleared (aimRow W aim) ks) i).natAbs < 2 ^ (2 ^ ks.length * (R + 1)) := fun i => by
    by_cases hi : i < (cleared (aimRow W aim) ks).length
    · rw [L2.Elim.at0_lt hi]
      exact Nat.lt_of_lt_of_le (hsm _ (List.getElem_mem hi)) (Nat.pow_le_pow_right (by decide) (Nat.sub_le _ _))
    · rw [L2.Elim.at0_ge (by omega)]; exact Nat.pow_pos (by decide)
  unfold factorsOf at e
  split at e
  · cases e
    refine ⟨⟨⟨(at0 (cleared (aimRow W aim) ks) (2 * W)).natAbs, by omega, hat _, fun p hp => ?_⟩, fun p hp => ?_⟩, by simp⟩
    · obtain ⟨j, -, rfl⟩ := List.mem_map.1 hp
      exact Int.natAbs_dvd_natAbs.2 (L2.Elim.frac_spec ht).2.1
    · obtain ⟨j, -, rfl⟩ := List.mem_map.1 hp
      obtain ⟨h1, -, -, -, h5, -⟩ := L2.Elim.frac_spec (t := -(at0 (cleared (aimRow W aim) ks) (W + j))) ht
      exact ⟨h1, by have := hat (W + j); rw [Int.natAbs_neg] at h5; omega, frac_okay ht⟩
  · cases e
theorem Tame.fine {B : Nat} {ps : Frow} (h : Tame B ps) (hB : B ≤ 9000) : Fine ps := by
  obtain ⟨⟨T, h1, h2, h3⟩, h4⟩ := h
  have p9 : (2 : Nat) ^ B ≤ 2 ^ 9000 := Nat.pow_le_pow_right (by decide) hB
  have p13 : (2 : Nat) ^ 9000 ≤ 2 ^ 13400 := Nat.pow_le_pow_right (by decide) (by decide)
  refine ⟨⟨T, h1, by omega, h3⟩, fun p hp => ⟨(h4 p hp).1, ?_, by have := (h4 p hp).2.1; omega⟩⟩
  have := Nat.le_of_dvd h1 (h3 p hp)
  omega
theorem Fine.shr {ps qs : Frow} (h : Fine ps) (hq : ∀ p, p ∈ qs → p ∈ ps) : shr qs < 2 ^ 13400 := by
  obtain ⟨⟨T, h1, h2, h3⟩, -⟩ := h
  have := Nat.le_of_dvd h1 (shr_dvd fun p hp => h3 p (hq p hp))
  omega
/-! ### what the checker asks of sizes -/
theorem LRok.steps {Ls : List LR} (h : LRok Ls) {k : Nat} (hk : k ≤ 1000) {L : LR} (hL : L ∈ Ls) {z : Nat} (hz : z < 2 ^ (k + 1)) : z < 2 ^ 1100 ∧ Steps (plainOf L) z 130000 ∧ ((linesAt L z).length = L.heads.length ∧ ∀ y, y ∈ linesAt L z → y.natAbs < 2 ^ 130000) ∧ L.heads.length ≤ 900 := by
  obtain ⟨n, b, hB, hb⟩ := h L hL
  have hkb : (k + 1) * (10 + b) ≤ 1001 * 110 := Nat.mul_le_mul (by omega) (by omega)
  have hz2 : z < 2 ^ 1100 := Nat.lt_of_lt_of_le hz (Nat.pow_le_pow_right (by decide) (by omega))
  have hp : (2 : Nat) ^ (b + (k + 1) * (10 + b)) ≤ 2 ^ 130000 := Nat.pow_le_pow_right (by decide) (by omega)
  have hs := lines_small hB hz
  refine ⟨hz2, fun n hn hj => ?_, ⟨by rw [hs.1, hB.h.1], fun y hy => by have := hs.2 y hy; omega⟩, by rw [hB.h.1]; exact hB.few⟩
  have st := steps_of hB hb (k := k + 1) (by omega) hz n hn hj
  exact ⟨st.few, st.rows, st.wl, st.pos, st.bb, by decide, fun y hy => by have := st.small y hy; omega, by decide, st.sh⟩
theorem spanPre_of {Ls : List LR} (h : LRok Ls) {k : Nat} (hk : k ≤ 1000) {eo : Option Int} {zs : List Nat} {rs : List Fpair} (hz : ∀ z, z ∈ zs → z < 2 ^ k) (hc : CertFact eo zs rs)
    (hT : ∀ (i : Nat) p, rs[i]? = some p → (∀ ps, p.1 = some ps → Fine ps) ∧ (∀ ps, p.2 = some ps → Fine ps)) {L : LR} (hL : L ∈ Ls) : SpanPre (plainOf L) zs rs 130000 := by
  have p1 : (2 : Nat) ^ (k + 1) = 2 * 2 ^ k := by rw [Nat.pow_succ]; omega
  have pl : ∀ {i n : Nat}, zs[i]? = some n → n < 2 ^ k := fun e => hz _ (List.mem_of_getElem? e)
  have ask : ∀ z, Asked zs rs z → z < 2 ^ (k + 1) := fun z hz' => by
    rcases hz' with q | ⟨i, n, p, e1, e2, q⟩
    · have := hz z q; omega
    · have := pl e1
      rcases q with q | q <;> (have := q.2; omega)
  have hzl : (natsI zs).length = zs.length := by simp [natsI]
  have ok : ∀ {ps : Frow} {place : Nat}, Fine ps → ps.length = zs.length → place < 2 ^ (k + 1) → RightOk ps zs (JR (plainOf L)) place (plainOf L).firsts.length 130000 := fun {ps place} hf hl hp => by
    refine ⟨hl, by have := hc.few; omega, hf.2, fun i => hf.shr fun p hp => ?_, fun n hn => ?_, (h.steps hk hL hp).2.2.2, by decide, by decide⟩
    · obtain ⟨x, hx, rfl⟩ := List.mem_map.1 (List.mem_of_mem_take hp)
      exact (List.of_mem_zip (List.mem_filter.1 hx).1).1
    · have hn2 : n < 2 ^ (k + 1) := by
        rcases hn with q | q
        · have := hz n q; omega
        · omega
      rw [JR_plain]
      exact (h.steps hk hL hn2).2.2.1
  refine ⟨fun z hz' => ⟨(h.steps hk hL (ask z hz')).1, (h.steps hk hL (ask z hz')).2.1⟩, fun z _ => by rw [valQ_plain], fun i n p e1 e2 => ?_⟩
  have hn := pl e1
  have hr := hc.row i n p e1 e2
  obtain ⟨t1, t2⟩ := hT i p e2
  refine ⟨fun ps e => ok (t1 ps e) ?_ (by omega), fun ps e => ok (t2 ps e) ?_ (by omega)⟩
  · have := hr.1
    rw [e] at this
    rw [← hzl]; exact this.2.1
  · have := hr.2
    rw [e] at this
    rw [← hzl]; exact this.2.1
theorem toldAt_plain (Ls : List LR) (z : Nat) : toldAt (Ls.map plainOf) z = ones (Ls.map fun L => atL L z) := by
  unfold toldAt ones
  rw [List.map_map, List.map_map]
  refine List.map_congr_left fun L _ => ?_
  show toldV (plainOf L) (JR (plainOf L) z, 1) = _
  rw [JR_plain, toldV_plain]; rfl
theorem addsUp_ones (fs ts : List Int) : addsUp fs (ones ts) = dotp fs ts := by
  unfold addsUp sumUp
  rw [shr_ones]
  have : ∀ (fs ts : List Int), (List.zipWith (fun f (p : Int × Int) => f * p.1 * (((1 : Nat) : Int) / p.2)) fs (ones ts)).sum = dotp fs ts := by
    intro fs
    induction fs with
    | nil => intro ts; simp [dotp]
    | cons f fs ih =>
      intro ts
      cases ts with
      | nil => simp [dotp, ones]
      | cons t ts =>
        have := ih ts
        rw [dotp_cons, ← this]
        unfold ones
        simp
  exact this fs ts
theorem sumPre_of {Ls : List LR} (h : LRok Ls) {k : Nat} (hk : k ≤ 1000) (hl6 : Ls.length ≤ 900) {fs : List Int} (hfl : fs.length = Ls.length) (hf : ∀ f, f ∈ fs → f.natAbs < 2 ^ 1000) {z : Nat} (hz : z < 2 ^ k) : SumPre fs (Ls.map plainOf) z 130000 := by
  have hz2 : z < 2 ^ (k + 1) := by rw [Nat.pow_succ]; omega
  refine ⟨fun R hR => ?_, ?_⟩
  · obtain ⟨L, hL, rfl⟩ := List.mem_map.1 hR
    obtain ⟨n, b, hB, hb⟩ := h L hL
    have hs := (h.steps hk hL hz2).2.2.1
    rw [JR_plain]
    refine ⟨(plainB_of hB).t, ?_, by show (1 : Int).natAbs < 2 ^ 60; decide, by decide, hs.2, by decide⟩
    show (ones L.told).length ≤ (linesAt L z).length
    unfold ones
    rw [List.length_map, hB.t.1, hs.1, hB.h.1]
    exact Nat.le_refl _
  · rw [toldAt_plain]
    have hol : (ones (Ls.map fun L => atL L z)).length = Ls.length := by simp [ones]
    refine ⟨by omega, by omega, fun p hp => ?_, fun i => by rw [ones_take, shr_ones]; exact Nat.one_lt_two_pow (by decide), hf⟩
    obtain ⟨x, hx, rfl⟩ := List.mem_map.1 hp
    obtain ⟨L, hL, rfl⟩ := List.mem_map.1 hx
    obtain ⟨n, b, hB, hb⟩ := h L hL
    have hs := (h.steps hk hL hz2).2.2.1
    refine ⟨by show (0 : Int) < 1; decide, Nat.one_lt_two_pow (by decide), ?_⟩
    have h10 : (2 : Nat) ^ 10 = 1024 := by decide
    have hd := dotp_lt (a := L.told) (b := linesAt L z) (by rw [hB.t.1, h10]; have := hB.few; omega) hB.t.2 hs.2
    exact Nat.lt_of_lt_of_le hd (Nat.pow_le_pow_right (by decide) (by have := hB.bits.2; omega))
/-- what a relation with a written span asks -/
theorem sumsPre_of {Ls : List LR} (h : LRok Ls) (hl6 : Ls.length ≤ 900) {k : Nat} (hk : k ≤ 1000) {fs : List Int} (hf : ∀ f, f ∈ fs → f.natAbs < 2 ^ 1000) {zs : List Nat} {rs : List Fpair} (hz : ∀ z, z ∈ zs → z < 2 ^ k)
    (hT : CertFact none zs rs → ∀ (i : Nat) p, rs[i]? = some p → (∀ ps, p.1 = some ps → Fine ps) ∧ (∀ ps, p.2 = some ps → Fine ps)) {ds : List Th} (hds : plains? ds = some (Ls.map plainOf)) : SumsPre none (.tup ds) (rowT fs) (certN zs rs) := by
  rintro ds' Rs fs' zs' rs' e1 e2 e3 e4 e5 hc
  have : ds' = ds := by injection e1 with e; exact e.symm
  subst this
  rw [hds] at e2
  cases e2
  have : fs' = fs := by
    injection e3 with e
    have := congrArg ints? e
    rw [ints?_of, ints?_of] at this
    exact (Option.some.inj this).symm
  subst this
  obtain ⟨rfl, rfl⟩ := certN_inj e5
  have hfl : fs'.length = Ls.length := by rw [e4, ← plains?_len hds, List.length_map]
  refine ⟨130000, fun R hR => ?_, fun z hz' => sumPre_of h hk hl6 hfl hf (hz z hz')⟩
  obtain ⟨L, hL, rfl⟩ := List.mem_map.1 hR
  exact spanPre_of h hk hz hc (hT hc) hL
end L2.EH
end S_W2
section S_W3
set_option exponentiation.threshold 20000
set_option maxRecDepth 100000
set_option maxHeartbeats 4000000
namespace L2.EH
open PySem PySem.Spec PyProof.Rows StX
open L2.Elim (at0 fv fsum Hits KO Search beyond Settled factorsOf frac cleared aimRow upTo zeroTo Char)
/-! ### relations of the law's rules, said by rows -/
def rowsHit (Ls : List LR) (zs : List Nat) (rs : List Fpair) : Prop := ∀ (i n : Nat) p, zs[i]? = some n → rs[i]? = some p → (∀ ps, p.1 = some ps → Hits (jointAt Ls) (widthOf Ls) ps zs (2 * n)) ∧ (∀ ps, p.2 = some ps → Hits (jointAt Ls) (widthOf Ls) ps zs (2 * n + 1))
theorem rowPos {ns : List Int} {place : Int} {eo : Option Int} {ps : Frow} (h : RowFact ns place eo (some ps)) : ∀ p, p ∈ ps → 0 < p.2 := fun p hp => frac_pos h.1 p hp
theorem spanOk_iff {Ls : List LR} (h : LRok Ls) {zs : List Nat} {rs : List Fpair} (hc : CertFact none zs rs) : SpanOk none (Ls.map plainOf) zs rs ↔ (zs.take 1 = [0] ∨ ∀ L, L ∈ Ls → ∀ z, z ∈ L.heads → z = 0) ∧ rowsHit Ls zs rs := by
  have key : ∀ {ps : Frow} {place : Nat} {eo : Option Int} {pl : Int}, RowFact (natsI zs) pl eo (some ps) → ((∀ L, L ∈ Ls → RightB ps zs (JR (plainOf L)) place (plainOf L).firsts.length) ↔ Hits (jointAt Ls) (widthOf Ls) ps zs place) := fun {ps place eo pl} hr => by
    rw [← hits_joint h]
    refine ⟨fun q L hL => ?_, fun q L hL => ?_⟩
    · have := (right_iff (rowPos hr)).1 (q L hL)
      rw [JR_plain] at this
      exact this
    · refine (right_iff (rowPos hr)).2 ?_
      rw [JR_plain]
      exact q L hL
  constructor
  · intro hs
    refine ⟨?_, fun i n p e1 e2 => ?_⟩
    · rcases hs.zero with q | q | q
      · exact .inl q
      · cases q
      · exact .inr fun L hL => q (plainOf L) (List.mem_map.2 ⟨L, hL, rfl⟩)
    · have hr := hc.row i n p e1 e2
      refine ⟨fun ps e => ?_, fun ps e => ?_⟩
      · have h1 := hr.1
        rw [e] at h1
        exact (key h1).1 fun L hL => (hs.row i n p e1 e2 (plainOf L) (List.mem_map.2 ⟨L, hL, rfl⟩)).1 ps e
      · have h1 := hr.2
        rw [e] at h1
        exact (key h1).1 fun L hL => (hs.row i n p e1 e2 (plainOf L) (List.mem_map.2 ⟨L, hL, rfl⟩)).2 ps e
  · rintro ⟨h0, hh⟩
    refine ⟨?_, fun i n p e1 e2 R hR => ?_⟩
    · rcases h0 with q | q
      · exact .inl q
      · refine .inr (.inr fun R hR => ?_)
        obtain ⟨L, hL, rfl⟩ := List.mem_map.1 hR
        exact q L hL
    · obtain ⟨L, hL, rfl⟩ := List.mem_map.1 hR
      have hr := hc.row i n p e1 e2
      obtain ⟨t1, t2⟩ := hh i n p e1 e2
      refine ⟨fun ps e => ?_, fun ps e => ?_⟩
      · have h1 := hr.1
        rw [e] at h1
        exact (key h1).2 (t1 ps e) L hL
      · have h1 := hr.2
        rw [e] at h1
        exact (key h1).2 (t2 ps e) L hL
/-- whether a claim of the law's rules is accepted, said by numbers -/
theorem relOk_iff {Ls : List LR} (h : LRok Ls) {ds : List Th} (hds : plains? ds = some (Ls.map plainOf)) (h1 : 1 ≤ Ls.length) (h6 : Ls.length ≤ 6) {fs : List Int} (hfl : fs.length = Ls.length) {zs : List Nat} {rs : List Fpair} :
    RelOk (.tup ds) (rowT fs) (certN zs rs) ↔ CertFact none zs rs ∧ ((zs.take 1 = [0] ∨ ∀ L, L ∈ Ls → ∀ z, z ∈ L.heads → z = 0) ∧ rowsHit Ls zs rs) ∧ ∀ z, z ∈ zs → dotp fs (Ls.map fun L => atL L z) = 0 := by
  have hdl : ds.length = Ls.length := by rw [← plains?_len hds, List.length_map]
  constructor
  · rintro ⟨ds', Rs, fs', zs', rs', e1, _, _, e2, e3, e4, e5, hc, hs, hz⟩
    have : ds' = ds := by injection e1 with e; exact e.symm
    subst this
    rw [hds] at e2
    cases e2
    have : fs' = fs := by
      injection e3 with e
      have := congrArg ints? e
      rw [ints?_of, ints?_of] at this
      exact (Option.some.inj this).symm
    subst this
    obtain ⟨rfl, rfl⟩ := certN_inj e5
    refine ⟨hc, (spanOk_iff h hc).1 hs, fun z hz' => ?_⟩
    have := hz z hz'
    rwa [toldAt_plain, addsUp_ones] at this
  · rintro ⟨hc, hs, hz⟩
    refine ⟨ds, _, fs, zs, rs, rfl, by omega, by omega, hds, rfl, by omega, rfl, hc, (spanOk_iff h hc).2 hs, fun z hz' => ?_⟩
    rw [toldAt_plain, addsUp_ones]
    exact hz z hz'
theorem relOk_len {ds : List Th} {fs : List Int} {d3 : Th} (h : fs.length ≠ ds.length) : ¬ RelOk (.tup ds) (rowT fs) d3 := by
  rintro ⟨ds', Rs, fs', zs', rs', e1, _, _, e2, e3, e4, e5, hc, hs, hz⟩
  have : ds' = ds := by injection e1 with e; exact e.symm
  subst this
  have : fs' = fs := by
    injection e3 with e
    have := congrArg ints? e
    rw [ints?_of, ints?_of] at this
    exact (Option.some.inj this).symm
  subst this
  exact h e4
/-! ### the law's own papers are right -/
theorem pairOfs_get {Ls : List LR} {lim : Option Nat} {W : Nat} {ks : Kept2} {found : List Nat} {i n : Nat} {p : Fpair} (e1 : found[i]? = some n) (e2 : (pairsOf Ls lim W ks found)[i]? = some p) : p = (halfAt Ls lim W ks (2 * n), halfAt Ls lim W ks (2 * n + 1)) := by
  unfold pairsOf at e2
  rw [List.getElem?_map, e1] at e2
  cases e2; rfl
theorem no_beyond (p : Nat) : ¬ beyond none p := fun ⟨l, e, _⟩ => by cases e
theorem halfAt_none {Ls : List LR} {W : Nat} {ks : Kept2} {p : Nat} : halfAt Ls none W ks p = factorsOf W ks (jointAt Ls p) := by
  unfold halfAt
  rw [if_neg (no_beyond p)]
theorem asc_ints : ∀ (zs : List Nat) (lo : Int), (∀ z, z ∈ zs → lo < (z : Int)) → zs.Pairwise (· < ·) → AscInts lo (natsI zs)
  | [], lo, _, _ => trivial
  | z :: zs, lo, h, hp => ⟨h z (by simp), asc_ints zs z (fun y hy => by have := (List.pairwise_cons.1 hp).1 y hy; omega) (List.pairwise_cons.1 hp).2⟩
structure Paper (Ls : List LR) (found : List Nat) (rs : List Fpair) : Prop where
  cert : CertFact none found rs
  zero : found.take 1 = [0] ∨ ∀ L, L ∈ Ls → ∀ z, z ∈ L.heads → z = 0
  hit : rowsHit Ls found rs
  some_ : ∀ (i : Nat) p, rs[i]? = some p → ∃ a b, p = (some a, some b) ∧ Tame 6200 a ∧ Tame 6200 b ∧ a.length = found.length ∧ b.length = found.length
  asc : found.Pairwise (· < ·)
  nz : ∀ n, n ∈ found → ∃ j, j < widthOf Ls ∧ at0 (jointAt Ls n) j ≠ 0
  small : ∀ z, z ∈ found → z < 2 ^ 13
  few : found.length ≤ 13
theorem zero_heads : ∀ {Ls : List LR}, (∀ j, at0 (jointAt Ls 0) j = 0) → ∀ L, L ∈ Ls → ∀ z, z ∈ L.heads → z = 0
  | [], _, L, h, _, _ => by cases h
  | M :: Ls, h, L, hL, z, hz => by
    have e : jointAt (M :: Ls) 0 = M.heads ++ jointAt Ls 0 := by
      show linesAt M 0 ++ jointAt Ls 0 = _
      rw [linesAt_zero]
    rw [e] at h
    rcases List.mem_cons.1 hL with q | q
    · subst q
      obtain ⟨i, hi, e⟩ := List.getElem_of_mem hz
      have := h i
      rw [L2.Elim.at0_append_left hi, L2.Elim.at0_lt hi] at this
      rw [← e]; exact this
    · refine zero_heads (Ls := Ls) (fun j => ?_) L q z hz
      have := h (M.heads.length + j)
      rwa [L2.Elim.at0_append_right (by omega), Nat.add_sub_cancel_left] at this
theorem paper_of {Ls : List LR} (h : LRok Ls) {W R D : Nat} (hR : Runs Ls none W R D) (hfit : 2 ^ D * (R + 1) ≤ 6200) {found : List Nat} {ks : Kept2} (S : Search (jointAt Ls) W R none found ks []) : Paper Ls found (pairsOf Ls none W ks found) := by
  have hWw : widthOf Ls = W := by rw [← joint_len h 0]; exact hR.wide 0
  have hfl : found.length ≤ D := hR.few _ _ _ S
  have hD := hR.D13
  have hW : found.length ≤ W := by have := KO.le S.ko; rwa [List.length_map] at this
  have hasc := (List.pairwise_append.1 S.asc).1
  have hzl : (natsI found).length = found.length := by simp [natsI]
  have hpl : (pairsOf Ls none W ks found).length = found.length := by simp [pairsOf]
  have hkl : ks.length = found.length := by have := S.ko.len; rwa [List.length_map] at this
  -- one place
  have one : ∀ (f d : Nat), f ∈ found → d < 2 → ∃ ps, halfAt Ls none W ks (2 * f + d) = some ps ∧ Hits (jointAt Ls) W ps found (2 * f + d) ∧ Tame 6200 ps ∧ ps.length = found.length ∧ RowFact (natsI found) ((2 * f + d : Nat) : Int) none (some ps) := fun f d hf hd => by
    have hset : Settled (jointAt Ls) found (2 * f + d) := by
      rcases S.end_ hf hd with q | q
      · exact absurd q (no_beyond _)
      · exact q
    have hlow := (hR.low S (S.kid_pow hf hd)).1
    obtain ⟨t, cs, h1, h2, h3, h4, h5⟩ := L2.Elim.hits_factors S.ko hW (hR.wide (2 * f + d)) (L2.Elim.settled_take hasc hset)
    have tm := factors_tame S.ko (by simpa using hW) (hR.wide _) (hR.small _ hlow) hR.R0 h3
    have hb : 2 ^ ks.length * (R + 1) ≤ 6200 := Nat.le_trans (Nat.mul_le_mul_right _ (Nat.pow_le_pow_right (by decide) (by omega))) hfit
    have tm2 : Tame 6200 (cs.map fun c => frac c t) := by
      obtain ⟨⟨T, a1, a2, a3⟩, a4⟩ := tm.1
      have pp : (2 : Nat) ^ (2 ^ ks.length * (R + 1)) ≤ 2 ^ 6200 := Nat.pow_le_pow_right (by decide) hb
      exact ⟨⟨T, a1, by omega, a3⟩, fun p hp => ⟨(a4 p hp).1, by have := (a4 p hp).2.1; omega, (a4 p hp).2.2⟩⟩
    refine ⟨_, by rw [halfAt_none]; exact h3, h4, tm2, by rw [List.length_map, h2], ?_, by rw [List.length_map, hzl, h2], fun x hx => ?_⟩
    · rw [List.all_eq_true]
      intro p hp
      obtain ⟨c, -, rfl⟩ := List.mem_map.1 hp
      exact frac_okay h1
    · obtain ⟨i, hi, e⟩ := List.getElem_of_mem hx
      rw [List.length_zip, List.length_map, hzl] at hi
      have hi1 : i < found.length := by omega
      have hi2 : i < cs.length := by omega
      rw [List.getElem_zip] at e
      rw [← e]
      have e1 : (natsI found)[i]'(by omega) = (found[i] : Int) := by unfold natsI; rw [List.getElem_map]
      have e2 : (cs.map fun c => frac c t)[i]'(by simpa using hi2) = frac cs[i] t := by rw [List.getElem_map]
      rcases Nat.lt_or_ge (2 * f + d) found[i] with q | q
      · right
        have h6 := L2.Elim.upTo_gt hasc (List.getElem?_eq_getElem hi1) q
        have h7 := h5 i h6
        rw [L2.Elim.at0_lt hi2] at h7
        show (cs.map fun c => frac c t)[i]'(by simpa using hi2) = (0, 1)
        rw [e2, h7, L2.Elim.frac_zero h1]
      · left
        show (natsI found)[i]'(by omega) ≤ _
        rw [e1]; omega
  have cf : CertFact none found (pairsOf Ls none W ks found) := by
    refine ⟨asc_ints found (-1) (fun z _ => by omega) hasc, by omega, hpl, fun i n p e1 e2 => ?_⟩
    rw [pairOfs_get e1 e2]
    have hn := List.mem_of_getElem? e1
    obtain ⟨a, a1, a2, a3, a4, a5⟩ := one n 0 hn (by decide)
    obtain ⟨b, b1, b2, b3, b4, b5⟩ := one n 1 hn (by decide)
    rw [Nat.add_zero] at a1 a5
    refine ⟨?_, ?_⟩
    · show RowFact _ _ _ (halfAt Ls none W ks (2 * n))
      rw [a1]; exact a5
    · show RowFact _ _ _ (halfAt Ls none W ks (2 * n + 1))
      rw [b1]; exact b5
  refine ⟨cf, ?_, fun i n p e1 e2 => ?_, fun i p e2 => ?_, hasc, fun n hn => ?_, fun z hz => ?_, by omega⟩
  · rcases S.zero_end with q | q
    · exact .inl q
    · exact .inr (zero_heads q)
  · rw [pairOfs_get e1 e2, hWw]
    have hn := List.mem_of_getElem? e1
    obtain ⟨a, a1, a2, a3, a4, a5⟩ := one n 0 hn (by decide)
    obtain ⟨b, b1, b2, b3, b4, b5⟩ := one n 1 hn (by decide)
    rw [Nat.add_zero] at a1 a2
    refine ⟨fun ps e => ?_, fun ps e => ?_⟩
    · rw [a1] at e; cases e; exact a2
    · rw [b1] at e; cases e; exact b2
  · have hi : i < found.length := by
      have := (List.getElem?_eq_some_iff.1 e2).1
      omega
    have e1 : found[i]? = some found[i] := List.getElem?_eq_getElem hi
    rw [pairOfs_get e1 e2]
    have hn := List.mem_of_getElem? e1
    obtain ⟨a, a1, a2, a3, a4, a5⟩ := one _ 0 hn (by decide)
    obtain ⟨b, b1, b2, b3, b4, b5⟩ := one _ 1 hn (by decide)
    rw [Nat.add_zero] at a1
    exact ⟨a, b, by rw [a1, b1], a3, b3, a4, b4⟩
  · rw [hWw]
    exact L2.Elim.KO.not_zero S.ko hW hR.wide hn
  · obtain ⟨i, hi, e⟩ := List.getElem_of_mem hz
    have := S.pow i z (by rw [← e]; exact List.getElem?_eq_getElem hi)
    have h2 : 2 ^ i ≤ 2 ^ 13 := Nat.pow_le_pow_right (by decide) (by omega)
    omega
theorem Tame.fine62 {ps : Frow} (h : Tame 6200 ps) : Fine ps := h.fine (by decide)
theorem Paper.fine {Ls : List LR} {found : List Nat} {rs : List Fpair} (h : Paper Ls found rs) : ∀ (i : Nat) p, rs[i]? = some p → (∀ ps, p.1 = some ps → Fine ps) ∧ (∀ ps, p.2 = some ps → Fine ps) := fun i p e => by
  obtain ⟨a, b, rfl, h1, h2, _⟩ := h.some_ i p e
  exact ⟨fun ps e => by cases e; exact h1.fine62, fun ps e => by cases e; exact h2.fine62⟩
end L2.EH
end S_W3
section S_U2
set_option exponentiation.threshold 20000
set_option maxRecDepth 100000
set_option maxHeartbeats 4000000
namespace L2.EH
open PySem PySem.Spec PyProof.Rows StX
/-! ### small rules -/
def unitR (m : Nat) (k : Int) : List Int := (List.range m).map fun (j : Nat) => if (j : Int) = k then 1 else 0
theorem unitR_len (m : Nat) (k : Int) : (unitR m k).length = m := by simp [unitR]
theorem unitR_get {m : Nat} {k : Int} {j : Nat} (h : j < m) : (unitR m k)[j]? = some (if (j : Int) = k then 1 else 0) := by
  unfold unitR
  rw [List.getElem?_map, List.getElem?_range h]; rfl
theorem unitR_small {m : Nat} {k : Int} : ∀ z, z ∈ unitR m k → z.natAbs < 2 ^ 5 := fun z hz => by
  obtain ⟨j, -, rfl⟩ := List.mem_map.1 hz
  split <;> decide
def spSmall (K : PySem.W.Frag) : Sp := fun vs H Q _ => ∃ (p : Addr) (hi m : Nat) (n : Int), vs = [.ref p, .int (m : Int), .int n] ∧ Purse H p hi ∧ hi ≤ 9000 ∧ 1 ≤ m ∧ m ≤ 2 ∧ 1 ≤ n ∧ n ≤ 2 ∧
  ∀ (L : LR) H' q, LRB L m 5 → FitsL L.even L.heads → Kept p H H' → Purse H' p (hi + 120) → H q = none → Dp K H' (.ref q) (lawD L) → Q (.ref q) H'
abbrev nmSmall : List Str := ["_law_source_here", "_law_many", "_law_wide", "_law_spots", "_law_odds", "_law_evens", "_law_turn", "_law_spot", "_law_j"]
theorem scSmall : FnScope ["_law_source_here", "_law_many", "_law_wide", "_law_spots", "_law_odds", "_law_evens", "_law_turn", "_law_spot", "_law_j"] ["_law_source_here", "_law_many", "_law_wide"] (defScope sSmall) := ⟨rfl, rfl, rfl, by decide +kernel, rfl, by decide +kernel, by decide +kernel⟩
def scS1 : Scope := lcScope (callArg (asgE (bodyAt sSmall 2)))
def scS2 : Scope := lcScope (callArg (asgE (bodyAt sSmall 3)))
theorem fits_unit {m : Nat} {hs : List Int} (hl : hs.length = m) : FitsL ((List.range m).map fun (k : Nat) => unitR m (k : Int)) hs := by
  intro i r z h1 h2
  rw [List.getElem?_map] at h1
  have hi : i < m := by rw [← hl]; exact (List.getElem?_eq_some_iff.1 h2).1
  rw [List.getElem?_range hi] at h1
  cases h1
  have key : ∀ (hs : List Int) (o : Nat), dotp ((List.range' o hs.length).map fun (j : Nat) => if (j : Int) = (i : Int) then 1 else 0) hs = if o ≤ i then hs.getD (i - o) 0 else 0 := by
    intro hs
    induction hs with
    | nil => intro o; simp [dotp]
    | cons x hs ih =>
      intro o
      rw [List.length_cons, List.range'_succ, List.map_cons, dotp_cons, ih (o + 1)]
      by_cases h : o = i
      · subst h
        rw [if_pos rfl, if_neg (by omega), if_pos (Nat.le_refl _), Nat.sub_self]; simp
      · rw [if_neg (by omega)]
        by_cases h3 : o ≤ i
        · rw [if_pos (by omega), if_pos h3, show i - o = (i - (o + 1)) + 1 by omega]
          simp
        · rw [if_neg (by omega), if_neg h3]; simp
  have := key hs 0
  rw [if_pos (Nat.zero_le _), Nat.sub_zero, hl, ← List.range_eq_range'] at this
  show dotp (unitR m (i : Int)) hs = z
  rw [show unitR m (i : Int) = (List.range m).map fun (j : Nat) => if (j : Int) = (i : Int) then (1 : Int) else 0 from rfl, this, List.getD_eq_getElem?_getD, h2]; rfl
section
variable {P : Program} {w : World} {K : PySem.W.Frag} {mg : Str → Option Value} {base : Heap}
theorem ok_small {f fD fR fO : Addr} {fd fdD fdR fdO : FuncData} (F : Fun K "_law_small" "_law_small" sSmall f fd) (B : BN mg) (FD : Fn' P w K mg base 1 "_law_draw" fD fdD ["_law_source_here", "_law_many"] spDraw)
    (FR : Fn' P w K mg base 4 "_law_rule" fR fdR ["_law_source_here", "_law_many", "_law_wide"] (spRule K)) (FO : Fn' P w K mg base 3 "_law_row" fO fdO ["_law_source_here", "_law_many", "_law_wide"] spRow) :
    FnOk P w K mg base CX0 5 f fd ["_law_source_here", "_law_many", "_law_wide"] (spSmall K) := by
  refine F.ok scSmall (fun vs H Q E h => ?_) (fun cdv A outer s H vs Q E hr h => ?_)
  · obtain ⟨p, hi, m, n, rfl, _⟩ := h
    rfl
  · obtain ⟨p, hi, m, n, rfl, hp, hhi, hm1, hm2, hn1, hn2, k⟩ := h
    have nd := scSmall.nd
    refine ⟨_, pss_cons (ps_if (pt_cmpR op_eq (pe_call FD.ok (by exact hr.mono (by decide)) (by rfl) FD.m FD.k FD.b .nil pass0 (pa_cons (pv 0) (pa_cons pe_int pa_nil))) pe_int (nomark _)) (pss_one (ps_ret (pe_call FR.ok (by exact hr) (by rfl) FR.m FR.k FR.b .nil pass0 (pa_cons (pv 0) (pa_cons (pv 1) (pa_cons (pv 2) pa_nil)))))) pss_nil)
      (pss_cons (ps_setLc (i := 3) (own := [("_law_turn", 6)]) (g := gName 6) (tt := tYes) (by rfl) nd rfl rfl (sw_true rfl rfl rfl (by decide +kernel)) (pi_range1 (by rfl) B.range (pa_cons (pv 1) pa_nil)) (blkOk_by (own := [("_law_turn", 6)]) (N := nmSmall) (sc := defScope sSmall) (by decide +kernel))
        (fun _ _ _ _ _ => pg_name (i := 6) nd rfl (Or.inl rfl) (Or.inr rfl)) (fun _ _ _ _ _ => pts_nil)
        (fun _ _ _ _ _ => pe_call FD.ok (by exact hr.mono (by decide)) (by rfl) FD.m FD.k FD.b .nil pass0 (pa_cons (pv 0) (pa_cons (pv 1) pa_nil))))
      (pss_cons (ps_set (i := 4) nd rfl (Or.inl rfl) (pe_callTy call_tuple_of (by rfl) B.tuple (by decide +kernel) (pa_cons (pe_lc (own := [("_law_spot", 7)]) (g := gName 7) (tt := tYes) rfl nd (pi_list (pv 3)) (blkOk_by (own := [("_law_spot", 7)]) (N := nmSmall) (sc := defScope sSmall) (by decide +kernel))
        (fun _ _ _ _ _ => pg_name (i := 7) nd rfl (Or.inr rfl) (Or.inl rfl)) (fun _ _ _ _ _ => pts_nil)
        (fun _ _ _ _ _ => pe_callTy (call_tupleK (K := K) rfl) (by rfl) B.tuple (by decide +kernel) (pa_cons (pe_lc (own := [("_law_j", 8)]) (g := gName 8) (tt := tYes) rfl nd (pi_range1 (by rfl) B.range (pa_cons (pv 1) pa_nil)) (blkOk_by (own := [("_law_j", 8)]) (N := nmSmall) (sc := scIn scS1 (defScope sSmall)) (by decide +kernel))
          (fun _ _ _ _ _ => pg_name (i := 8) nd rfl (Or.inl rfl) (Or.inr rfl)) (fun _ _ _ _ _ => pts_nil)
          (fun _ _ _ _ _ => pe_callTy call_int1 (by rfl) B.int (by decide +kernel) (pa_cons (pe_cmpR op_eq (pv 8) (pv 7) (nomark _)) pa_nil))) pa_nil))) pa_nil)))
      (pss_cons (ps_set (i := 5) nd rfl (Or.inl rfl) (pe_callTy call_tuple_of (by rfl) B.tuple (by decide +kernel) (pa_cons (pe_lc (own := [("_law_spot", 7)]) (g := gName 7) (tt := tYes) rfl nd (pi_range1 (by rfl) B.range (pa_cons (pv 1) pa_nil)) (blkOk_by (own := [("_law_spot", 7)]) (N := nmSmall) (sc := defScope sSmall) (by decide +kernel))
        (fun _ _ _ _ _ => pg_name (i := 7) nd rfl (Or.inr rfl) (Or.inl rfl)) (fun _ _ _ _ _ => pts_nil)
        (fun _ _ _ _ _ => pe_callTy (call_tupleK (K := K) rfl) (by rfl) B.tuple (by decide +kernel) (pa_cons (pe_lc (own := [("_law_j", 8)]) (g := gName 8) (tt := tYes) rfl nd (pi_range1 (by rfl) B.range (pa_cons (pv 1) pa_nil)) (blkOk_by (own := [("_law_j", 8)]) (N := nmSmall) (sc := scIn scS2 (defScope sSmall)) (by decide +kernel))
          (fun _ _ _ _ _ => pg_name (i := 8) nd rfl (Or.inl rfl) (Or.inr rfl)) (fun _ _ _ _ _ => pts_nil)
          (fun _ _ _ _ _ => pe_callTy call_int1 (by rfl) B.int (by decide +kernel) (pa_cons (pe_cmpR op_eq (pv 8) (pv 7) (nomark _)) pa_nil))) pa_nil))) pa_nil)))
      (pss_one (ps_ret (pe_tup (pa_cons (pv 5) (pa_cons (pv 4) (pa_cons (pe_call FO.ok (by exact hr.mono (by decide)) (by rfl) FO.m FO.k FO.b .nil pass0 (pa_cons (pv 0) (pa_cons (pv 1) (pa_cons pe_int pa_nil)))) (pa_cons (pe_call FO.ok (by exact hr.mono (by decide)) (by rfl) FO.m FO.k FO.b .nil pass0 (pa_cons (pv 0) (pa_cons (pv 1) (pa_cons pe_int pa_nil)))) pa_nil)))))))))), ?_⟩
    refine ⟨_, rfl, p, hi, 2, rfl, hp, by omega, by decide, by decide, fun d H1 hd0 hd1 k1 p1 => ⟨rfl, _, rfl, ?_⟩⟩
    by_cases hd : d = 0
    · refine iteT' (by rw [hd]; rfl) ?_
      refine ⟨_, rfl, _, rfl, _, rfl, p, hi + 1, m, 5, n, ?_, by decide, by decide, rfl, p1, by omega, hm1, by omega, by omega, by omega, fun L H2 q hB hF _ k2 p2 nq hq => ?_⟩
      · obtain ⟨n', rfl⟩ : ∃ n' : Nat, n = (n' : Int) := ⟨n.toNat, by omega⟩
        have h1 : m = 1 ∨ m = 2 := by omega
        have h2 : n' = 1 ∨ n' = 2 := by omega
        rcases h1 with rfl | rfl <;> rcases h2 with rfl | rfl <;> decide
      · have nH : H q = none := by
          cases e : H q with
          | none => rfl
          | some o =>
            have qp : q ≠ p := fun z => by obtain ⟨_, _, _, h1, _⟩ := p1; rw [← z, nq] at h1; cases h1
            rw [k1 _ _ qp e] at nq; cases nq
        exact k L H2 q hB hF (k1.trans k2) (p2.wide (by omega)) nH hq
    refine iteF' (by rw [decide_eq_false fun z => hd (by injection z)]) ?_
    -- the spots
    refine ⟨_, rfl, (m : Int), rfl, by omega, by omega, fun D nD => ?_⟩
    rw [show ((m : Int)).toNat = m by omega]
    have hDp : D ≠ p := fun e => by obtain ⟨_, _, _, h1, _⟩ := p1; rw [← e, nD] at h1; cases h1
    refine lc_out walk_range (fun j Hd => ∃ ks : List Int, Kept p H1 Hd ∧ Purse Hd p (hi + 1 + j) ∧ Hd D = some (.lst (ks.map V.int)) ∧ ks.length = j) ⟨[], Same.kept (same_new nD), p1.upd hDp, upd_same, rfl⟩ (fun _ _ _ _ => trivial) ?_ ?_
    · rintro j y H0 Hd hj ⟨ks, kO, pO, hO, hkl⟩ ⟨rfl, rfl⟩
      refine ⟨rfl, _, rfl, _, rfl, p, _, (m : Int), rfl, pO, by omega, by omega, by omega, fun d2 H3 h30 h31 k3 p3 => ?_⟩
      have hO3 := k3 _ _ hDp hO
      refine ⟨_, hO3, small1000 (by rw [List.length_map]; omega), ks ++ [d2], fun b o hb ho => ?_, (p3.upd hDp).wide (by omega), by rw [upd_same, List.map_append]; rfl, by simp [hkl]⟩
      rw [upd_ne (ne_of_none ho nD)]
      exact k3 b o hb (kO b o hb ho)
    rintro H2 ⟨ks, k2, p2, hD2, hkl⟩
    have kH2 := k1.trans k2
    -- the odd rows
    refine ⟨_, rfl, D, rfl, ⟨_, SqL.of hD2⟩, fun D3 nD3 => ?_⟩
    refine lc_out (walk_list (xs := ks.map V.int)) (fun i Hd => GrowD K H2 D3 ((ks.take i).map fun k => rowD (unitR m k)) Hd) (GrowD.start nD3) (fun i Hd _ ⟨_, g, _⟩ => SqL.of (g.s _ _ hD2)) ?_ ?_
    · rintro i x H0 Hd hi' ⟨acc, g, da⟩ ⟨rfl, hx'⟩
      rw [List.getElem?_map] at hx'
      cases ek : ks[i]? with
      | none => rw [ek] at hx'; cases hx'
      | some kk =>
        rw [ek] at hx'
        cases hx'
        refine ⟨rfl, _, rfl, (m : Int), rfl, by omega, by omega, fun D4 nD4 => ?_⟩
        rw [show ((m : Int)).toNat = m by omega]
        refine lc_out walk_range (fun j He => Grow Hd D4 (((unitR m kk).take j).map V.int) He) (Grow.start nD4) (fun _ _ _ _ => trivial) ?_ ?_
        · rintro j y H00 He hj g2 ⟨rfl, rfl⟩
          have eI : ((0 : Int) + (j : Nat)) = (j : Int) := by omega
          show gName 8 (V.int (0 + (j : Nat))) _ _ _
          rw [eI]
          refine ⟨rfl, _, rfl, _, rfl, rfl, .inr ⟨_, rfl, _, g2.d, small1000 (by rw [List.length_map, List.length_take, unitR_len]; omega), ?_⟩⟩
          have := g2.step nD4 (V.int (if (j : Int) = kk then 1 else 0))
          rw [take_snoc' _ j _ (unitR_get hj), List.map_append]
          have ed : (if decide (V.int (j : Int) = V.int kk) = true then (1 : Int) else 0) = (if (j : Int) = kk then 1 else 0) := by
            rw [show decide (V.int (j : Int) = V.int kk) = decide ((j : Int) = kk) from decide_eq_decide.2 ⟨fun e => by injection e, fun e => by rw [e]⟩]
            simp
          show Grow Hd D4 _ (L2.upd He D4 (.lst (_ ++ [V.int (if decide (V.int (j : Int) = V.int kk) = true then 1 else 0)])))
          rw [ed]
          exact this
        · intro He g2
          rw [List.take_of_length_le (by rw [unitR_len]; exact Nat.le_refl _)] at g2
          refine ⟨D4, _, rfl, .inl ⟨SqL.of g2.d, fun q nq => ?_⟩⟩
          refine GrowD.step nD3 ⟨acc, g, da⟩ (g2.s.trans (same_new nq)) (d := rowD (unitR m kk)) (row_dp (SqT.of upd_same)) (rowD_tup _) (tupsOnly_map (fun k => rowD (unitR m k)) (fun k => rowD_tup _) _) (by rw [List.length_map, List.length_take]; omega) fun Hn gn => ?_
          rw [take_snoc' ks i kk ek, List.map_append]
          exact gn
    rintro H3 ⟨acc3, g3, da3⟩
    rw [List.take_of_length_le (by simp)] at da3
    refine ⟨D3, _, rfl, .inl ⟨SqL.of g3.d, fun od nod => ?_⟩⟩
    have so := same_new (o := .tup acc3) nod
    have dod : Dp K (L2.upd H3 od (.tup acc3)) (.ref od) (rowsD (ks.map fun k => unitR m k)) := .tup (SqT.of upd_same) (by rw [List.map_map]; exact dpAll_same so da3)
    have s24 := g3.s.trans so
    generalize (L2.upd H3 od (.tup acc3)) = H4 at *
    -- the even rows
    refine ⟨_, rfl, (m : Int), rfl, by omega, by omega, fun D5 nD5 => ?_⟩
    rw [show ((m : Int)).toNat = m by omega]
    refine lc_out walk_range (fun i Hd => GrowD K H4 D5 ((List.range i).map fun (k : Nat) => rowD (unitR m (k : Int))) Hd) (GrowD.start nD5) (fun _ _ _ _ => trivial) ?_ ?_
    · rintro i x H0 Hd hi' ⟨acc, g, da⟩ ⟨rfl, rfl⟩
      have eI0 : ((0 : Int) + (i : Nat)) = (i : Int) := by omega
      show gName 7 (V.int (0 + (i : Nat))) _ _ _
      rw [eI0]
      refine ⟨rfl, _, rfl, (m : Int), rfl, by omega, by omega, fun D4 nD4 => ?_⟩
      rw [show ((m : Int)).toNat = m by omega]
      refine lc_out walk_range (fun j He => Grow Hd D4 (((unitR m (i : Int)).take j).map V.int) He) (Grow.start nD4) (fun _ _ _ _ => trivial) ?_ ?_
      · rintro j y H00 He hj g2 ⟨rfl, rfl⟩
        have eI : ((0 : Int) + (j : Nat)) = (j : Int) := by omega
        show gName 8 (V.int (0 + (j : Nat))) _ _ _
        rw [eI]
        refine ⟨rfl, _, rfl, _, rfl, rfl, .inr ⟨_, rfl, _, g2.d, small1000 (by rw [List.length_map, List.length_take, unitR_len]; omega), ?_⟩⟩
        have := g2.step nD4 (V.int (if (j : Int) = (i : Int) then 1 else 0))
        rw [take_snoc' _ j _ (unitR_get hj), List.map_append]
        have ed : (if decide (V.int (j : Int) = V.int (i : Int)) = true then (1 : Int) else 0) = (if (j : Int) = (i : Int) then 1 else 0) := by
          rw [show decide (V.int (j : Int) = V.int (i : Int)) = decide ((j : Int) = (i : Int)) from decide_eq_decide.2 ⟨fun e => by injection e, fun e => by rw [e]⟩]
          simp
        show Grow Hd D4 _ (L2.upd He D4 (.lst (_ ++ [V.int (if decide (V.int (j : Int) = V.int (i : Int)) = true then 1 else 0)])))
        rw [ed]
        exact this
      · intro He g2
        rw [List.take_of_length_le (by rw [unitR_len]; exact Nat.le_refl _)] at g2
        refine ⟨D4, _, rfl, .inl ⟨SqL.of g2.d, fun q nq => ?_⟩⟩
        refine GrowD.step nD5 ⟨acc, g, da⟩ (g2.s.trans (same_new nq)) (d := rowD (unitR m (i : Int))) (row_dp (SqT.of upd_same)) (rowD_tup _) (tupsOnly_map (fun (k : Nat) => rowD (unitR m (k : Int))) (fun k => rowD_tup _) _) (by simp; omega) fun Hn gn => ?_
        rw [List.range_succ, List.map_append]
        exact gn
    rintro H5 ⟨acc5, g5, da5⟩
    refine ⟨D5, _, rfl, .inl ⟨SqL.of g5.d, fun ev nev => ?_⟩⟩
    have se := same_new (o := .tup acc5) nev
    have dev : Dp K (L2.upd H5 ev (.tup acc5)) (.ref ev) (rowsD ((List.range m).map fun (k : Nat) => unitR m (k : Int))) := .tup (SqT.of upd_same) (by rw [List.map_map]; exact dpAll_same se da5)
    have s46 := g5.s.trans se
    have dod6 := dp_same s46 dod
    have p6 := p2.same (s24.trans s46)
    have k6 : Kept p H _ := kH2.trans (Same.kept (s24.trans s46))
    generalize (L2.upd H5 ev (.tup acc5)) = H6 at *
    refine ⟨_, rfl, _, rfl, _, rfl, _, rfl, p, _, (m : Int), 2, rfl, p6, by omega, by omega, by omega, by decide, by decide, fun r1 H7 q1 hr1l hr1z k7 p7 nq1 hq1 => ?_⟩
    refine ⟨_, rfl, _, rfl, p, _, (m : Int), 2, rfl, p7, by omega, by omega, by omega, by decide, by decide, fun r2 H8 q2 hr2l hr2z k8 p8 nq2 hq2 => ⟨by show 4 ≤ sizeLine; decide, fun pf npf => ?_⟩⟩
    have sf := same_new (o := .tup [V.ref ev, V.ref od, V.ref q1, V.ref q2]) npf
    have q1p : q1 ≠ p := fun z => by obtain ⟨_, _, _, h1, _⟩ := p6; rw [← z, nq1] at h1; cases h1
    have hq18 := k8 _ _ q1p hq1
    have kT := ((k7.keepT p6).trans (k8.keepT p7)).trans (keepT_same sf)
    have pfp : pf ≠ p := fun z => by obtain ⟨_, _, _, h1, _⟩ := p8; rw [← z, npf] at h1; cases h1
    have kAll : Kept p H H8 := (k6.trans k7).trans k8
    have nH : H pf = none := by
      cases e : H pf with
      | none => rfl
      | some o => rw [kAll _ _ pfp e] at npf; cases npf
    have hr1 : r1.length = m := by omega
    have hr2 : r2.length = m := by omega
    have two5 : ∀ {r : List Int}, (∀ z, z ∈ r → z.natAbs ≤ (2 : Int).toNat) → ∀ z, z ∈ r → z.natAbs < 2 ^ 5 := fun h z hz => by
      have h1 := h z hz
      have h2 : (2 : Int).toNat = 2 := rfl
      omega
    refine k ⟨(List.range m).map fun (k : Nat) => unitR m (k : Int), ks.map fun k => unitR m k, r1, r2⟩ _ pf ⟨by omega, ⟨by decide, by decide⟩, by simp, by simp [hkl], fun r hr => ?_, fun r hr => ?_, ⟨hr1, two5 hr1z⟩, ⟨hr2, two5 hr2z⟩⟩ (fits_unit hr1) (kAll.trans (Same.kept sf)) ((p8.same sf).wide (by omega)) nH ?_
    · obtain ⟨k, -, rfl⟩ := List.mem_map.1 hr
      exact ⟨unitR_len _ _, unitR_small⟩
    · obtain ⟨k, -, rfl⟩ := List.mem_map.1 hr
      exact ⟨unitR_len _ _, unitR_small⟩
    · exact .tup (SqT.of upd_same) (.cons (dp_keep kT (rowsD_tup _) dev) (.cons (dp_keep kT (rowsD_tup _) dod6) (.cons (row_dp (SqT.of (sf _ _ hq18))) (.cons (row_dp (SqT.of (sf _ _ hq2))) .nil))))
end
end L2.EH
end S_U2
section S_U3
set_option exponentiation.threshold 20000
set_option maxRecDepth 100000
set_option maxHeartbeats 4000000
namespace L2.EH
open PySem PySem.Spec PyProof.Rows StX
open L2.Elim (at0 KO factorsOf keptWith keptRow)
def limB (lim : Option Nat) (n : Nat) : Bool := match lim with
  | none => false
  | some l => decide (l ≤ n)
theorem first_idx : ∀ {us : List Nat} {z : Nat}, z ∈ us → ∃ j : Nat, us[j]? = some z ∧ ∀ m, m < j → ∀ y, us[m]? = some y → y ≠ z
  | u :: us, z, h => by
    by_cases e : u = z
    · exact ⟨0, by rw [e]; rfl, fun m hm => absurd hm (Nat.not_lt_zero _)⟩
    · rcases List.mem_cons.1 h with q | q
      · exact absurd q.symm e
      · obtain ⟨j, h1, h2⟩ := first_idx q
        refine ⟨j + 1, by simpa using h1, fun m hm y hy => ?_⟩
        cases m with
        | zero => cases hy; exact e
        | succ m => exact h2 m (by omega) y (by simpa using hy)
theorem int_dec (a b : Int) : decide (V.int a = V.int b) = decide (a = b) := decide_eq_decide.2 ⟨fun e => by injection e, fun e => by rw [e]⟩
theorem pe_toK {X : Cx} {K : PySem.W.Frag} {ex : Expr} {T : String} {rr : PySem.W.Frag → V → List V → Hp → VK → Prop} {to : TE} {t : TA} (e : X.K = K) (h : PE X ex (tBM X.K T (rr X.K) to t)) : PE X ex (tBM K T (rr K) to t) := by subst e; exact h
theorem flat_nats (l : List Nat) : (natsV l).all flatV = true := List.all_eq_true.mpr fun x hx => by
  obtain ⟨i, -, rfl⟩ := List.mem_map.1 hx
  rfl
theorem inV_nats (z : Nat) (l : List Nat) : inV (.int (z : Int)) (natsV l) = decide (z ∈ l) := by
  unfold inV natsV
  rw [List.any_map]
  rw [Bool.eq_iff_iff]
  rw [List.any_eq_true]
  constructor
  · rintro ⟨x, hx, e⟩
    have e : ((x : Int) == (z : Int)) = true := e
    have : (x : Int) = (z : Int) := by simpa using e
    have : x = z := by omega
    exact decide_eq_true (this ▸ hx)
  · intro h
    exact ⟨z, of_decide_eq_true h, by show ((z : Int) == (z : Int)) = true; simp⟩
def LawsD (K : PySem.W.Frag) (H : Hp) (q : Addr) (Ls : List LR) : Prop := ∃ xs : List Addr, H q = some (.lst (xs.map V.ref)) ∧ DpAll K H (xs.map V.ref) (Ls.map lawD)
theorem LawsD.at {K : PySem.W.Frag} {H : Hp} {q : Addr} {Ls : List LR} (h : LawsD K H q Ls) : LawsAt K H q Ls := by
  obtain ⟨xs, h1, h2⟩ := h
  exact ⟨_, SqL.of h1, h2⟩
theorem laws_tup (Ls : List LR) : tupsOnly (Ls.map lawD) = true := tupsOnly_map lawD lawD_tup Ls
theorem refs_ne {p q : Addr} {H : Hp} {hi : Nat} {xs : List Addr} (h : Purse H p hi) (hq : H q = some (.lst (xs.map V.ref))) : q ≠ p := h.ne hq (fun a b c e => by
  cases xs with
  | nil => cases e
  | cons x xs => injection e with e; injection e with e; cases e)
theorem LawsD.kept {K : PySem.W.Frag} {p : Addr} {H H' : Hp} {hi : Nat} {q : Addr} {Ls : List LR} (k : Kept p H H') (hp : Purse H p hi) (h : LawsD K H q Ls) : LawsD K H' q Ls := by
  obtain ⟨xs, h1, h2⟩ := h
  exact ⟨xs, k _ _ (refs_ne hp h1) h1, dpAll_keep (k.keepT hp) (laws_tup Ls) h2⟩
theorem LawsD.same {K : PySem.W.Frag} {H H' : Hp} {q : Addr} {Ls : List LR} (s : Same H H') (h : LawsD K H q Ls) : LawsD K H' q Ls := by
  obtain ⟨xs, h1, h2⟩ := h
  exact ⟨xs, s _ _ h1, dpAll_same s h2⟩
structure Rules5 (Ls : List LR) : Prop where
  lr : ∀ L, L ∈ Ls → ∃ n, LRB L n 5
  w4 : widthOf Ls ≤ 4
theorem Rules5.ok {Ls : List LR} (h : Rules5 Ls) : LRok Ls := fun L hL => by
  obtain ⟨n, hB⟩ := h.lr L hL
  exact ⟨n, 5, hB, by decide⟩
theorem Rules5.small : ∀ {Ls : List LR}, (∀ L, L ∈ Ls → ∃ n, LRB L n 5) → ∀ {z : Nat}, z < 2 ^ 5 → ∀ y, y ∈ jointAt Ls z → y.natAbs < 2 ^ 80
  | [], _, z, _, y, hy => by cases hy
  | L :: Ls, h, z, hz, y, hy => by
    rcases List.mem_append.1 (show y ∈ linesAt L z ++ jointAt Ls z from hy) with q | q
    · obtain ⟨n, hB⟩ := h L (by simp)
      exact (lines_small hB hz).2 y q
    · exact Rules5.small (Ls := Ls) (fun M hM => h M (by simp [hM])) hz y q
def RowGood (n : Nat) (o : Option Frow) : Prop := ∀ ps, o = some ps → ps.length = n ∧ Tame 2000 ps
def menuL : List (Int × Int) := [(0, 1), (1, 1), (-1, 1), (1, 2), (2, 1)]
theorem menu_tame {ps : Frow} (h : ∀ p, p ∈ ps → p ∈ menuL) : Tame 2000 ps := by
  have h2 : (2 : Nat) ^ 2 ≤ 2 ^ 2000 := Nat.pow_le_pow_right (by decide) (by decide)
  refine ⟨⟨2, by decide, by omega, fun p hp => ?_⟩, fun p hp => ?_⟩
  · have := h p hp
    rcases (by simpa [menuL] using this : p = (0, 1) ∨ p = (1, 1) ∨ p = (-1, 1) ∨ p = (1, 2) ∨ p = (2, 1)) with e | e | e | e | e <;> rw [e] <;> decide
  · have := h p hp
    rcases (by simpa [menuL] using this : p = (0, 1) ∨ p = (1, 1) ∨ p = (-1, 1) ∨ p = (1, 2) ∨ p = (2, 1)) with e | e | e | e | e <;> (rw [e]; refine ⟨by decide, ?_, by decide⟩; show _ < _; simp only [Int.natAbs_zero, Int.natAbs_one, Int.natAbs_neg]; first | omega | (show (2 : Int).natAbs < _; have : (2 : Int).natAbs = 2 := rfl; omega))
theorem tame_sub {B : Nat} {ps qs : Frow} (h : Tame B ps) (hB : 1 ≤ B) (hq : ∀ q, q ∈ qs → q ∈ ps ∨ q = (0, 1)) : Tame B qs := by
  obtain ⟨⟨T, h1, h2, h3⟩, h4⟩ := h
  have p1 : (2 : Nat) ^ 1 ≤ 2 ^ B := Nat.pow_le_pow_right (by decide) hB
  refine ⟨⟨T, h1, h2, fun q hq' => ?_⟩, fun q hq' => ?_⟩
  · rcases hq q hq' with e | e
    · exact h3 q e
    · rw [e]; exact Nat.one_dvd _
  · rcases hq q hq' with e | e
    · exact h4 q e
    · rw [e]; exact ⟨by decide, by show 0 < _; omega, by decide⟩
def spDrawnRow (K : PySem.W.Frag) : Sp := fun vs H Q _ => ∃ (p l c : Addr) (v : V) (hi : Nat) (Ls : List LR) (ns : List Nat) (lt : Nat) (lim : Option Nat), vs = [.ref p, .ref l, .ref c, .int (lt : Int), v] ∧ Purse H p hi ∧ hi ≤ 50000 ∧ LawsD K H l Ls ∧ Rules5 Ls ∧ H c = some (.lst (natsV ns)) ∧ c ≠ p ∧ LimAt v lim ∧
  ns.length ≤ 10 ∧ (∀ z, z ∈ ns → z < 10) ∧ lt < 20 ∧ ∀ (o : Option Frow) H' w, RowGood ns.length o → Kept p H H' → Purse H' p (hi + 20) → Dp K H' w (optD o) → Q w H'
abbrev nmDrawn : List Str := ["_law_source_here", "_law_rules", "_law_numbers", "_law_later", "_law_limit", "_law_way", "_law_kept_here", "_law_used", "_law_at_here", "_law_worths", "_law_found", "_law_menu"]
theorem scDrawn : FnScope ["_law_source_here", "_law_rules", "_law_numbers", "_law_later", "_law_limit", "_law_way", "_law_kept_here", "_law_used", "_law_at_here", "_law_worths", "_law_found", "_law_menu"] ["_law_source_here", "_law_rules", "_law_numbers", "_law_later", "_law_limit"] (defScope sDrawnRow) := ⟨rfl, rfl, rfl, by decide +kernel, rfl, by decide +kernel, by decide +kernel⟩
section
variable {P : Program} {w : World} {K : PySem.W.Frag} {mg : Str → Option Value} {base : Heap}
theorem ok_drawnRow {f fD fJ fF fK : Addr} {fd fdD fdJ fdF fdK : FuncData} (F : Fun K "_law_drawn_row" "_law_drawn_row" sDrawnRow f fd) (B : BN mg) (FD : Fn' P w K mg base 1 "_law_draw" fD fdD ["_law_source_here", "_law_many"] spDraw) (FJ : Fn' P w K mg base 3 "_law_joint" fJ fdJ ["_law_rules", "_law_at_here"] (spJoint K))
    (FF : Fn' P w K mg base 4 "_law_factors" fF fdF ["_law_kept_here", "_law_aim"] (spFactors K)) (FK : Fn' P w K mg base 4 "_law_kept" fK fdK ["_law_kept_here", "_law_worths"] (spKept K)) :
    FnOk P w K mg base CX0 5 f fd ["_law_source_here", "_law_rules", "_law_numbers", "_law_later", "_law_limit"] (spDrawnRow K) := by
  refine F.ok scDrawn (fun vs H Q E h => ?_) (fun cdv A outer s H vs Q E hr h => ?_)
  · obtain ⟨p, l, c, v, hi, Ls, ns, lt, lim, rfl, _⟩ := h
    rfl
  · obtain ⟨p, l, c, v, hi, Ls, ns, lt, lim, rfl, hp, hhi, hLs, hR5, hc, hcp, hlim, hnl, hns, hlt, k⟩ := h
    have nd := scDrawn.nd
    refine ⟨_, pss_cons (ps_set (i := 5) nd rfl (Or.inl rfl) (pe_call FD.ok (by exact hr.mono (by decide)) (by rfl) FD.m FD.k FD.b .nil pass0 (pa_cons (pv 0) (pa_cons pe_int pa_nil))))
      (pss_cons (ps_if (PW.pt (pw_or (pt_cmpR op_eq (pv 5) pe_int (nomark _)) (pw_or1 (PW.pt (pw_and (pt_cmpR op_lt (pv 5) pe_int (nomark _)) (pw_and (pt_cmpR op_notN (pv 4) pe_non (by rfl)) (pw_and1 (pt_cmpR op_ge (pv 3) (pv 4) (nomark _))))))))) (pss_one (ps_ret pe_non)) pss_nil)
      (pss_cons (ps_asg (pe_tup (pa_cons (pe_lst pa_nil) (pa_cons (pe_lst pa_nil) pa_nil))) (pg_tup rfl (pgs_cons (pg_name (i := 6) nd rfl (Or.inl rfl)) (pgs_cons (pg_name (i := 7) nd rfl (Or.inr rfl)) pgs_nil))))
      (pss_cons (ps_for PassesOwn.never rfl (pi_list (pv 2)) (pg_name (i := 8) nd rfl (Or.inl rfl))
        (pss_cons (ps_set (i := 9) nd rfl (Or.inl rfl) (pe_call FJ.ok (by exact hr.mono (by decide)) (by rfl) FJ.m FJ.k FJ.b .nil pass0 (pa_cons (pv 1) (pa_cons (pv 8) pa_nil))))
        (pss_one (ps_if (PW.pt (pw_and (PW.pt (pw_or (pt_cmpR op_le (pv 8) (pv 3) (nomark _)) (pw_or1 (pt_cmpR op_eq (pv 5) pe_int (nomark _))))) (pw_and1 (pt_cmpR op_isN (pe_call FF.ok (by exact hr) (by rfl) FF.m FF.k FF.b .nil pass0 (pa_cons (pv 6) (pa_cons (pv 9) pa_nil))) pe_non (by rfl)))))
          (pss_cons (ps_set (i := 6) nd rfl (Or.inl rfl) (pe_call FK.ok (by exact hr) (by rfl) FK.m FK.k FK.b .nil pass0 (pa_cons (pv 6) (pa_cons (pv 9) pa_nil))))
          (pss_one (ps_expr (pe_bm PySem.F.plainAttrs_list PySem.F.slot_list_append PySem.F.type_list_append mt_append (pv 7) (pa_cons (pv 8) pa_nil))))) pss_nil))))
      (pss_cons (ps_set (i := 10) nd rfl (Or.inr rfl) (pe_call FF.ok (by exact hr) (by rfl) FF.m FF.k FF.b .nil pass0 (pa_cons (pv 6) (pa_cons (pe_call FJ.ok (by exact hr.mono (by decide)) (by rfl) FJ.m FJ.k FJ.b .nil pass0 (pa_cons (pv 1) (pa_cons (pv 3) pa_nil))) pa_nil))))
      (pss_cons (ps_if (PW.pt (pw_or (pt_cmpR op_isN (pv 10) pe_non (by rfl)) (pw_or1 (pt_cmpR op_eq (pv 5) pe_int (nomark _)))))
        (pss_cons (ps_set (i := 11) nd rfl (Or.inr rfl) (pe_lst (pa_cons (pe_tup (pa_cons pe_int (pa_cons pe_int pa_nil))) (pa_cons (pe_tup (pa_cons pe_int (pa_cons pe_int pa_nil))) (pa_cons (pe_tup (pa_cons (pe_un un_neg pe_int) (pa_cons pe_int pa_nil))) (pa_cons (pe_tup (pa_cons pe_int (pa_cons pe_int pa_nil))) (pa_cons (pe_tup (pa_cons pe_int (pa_cons pe_int pa_nil))) pa_nil)))))))
        (pss_one (ps_ret (pe_callTy call_tuple_of (by rfl) B.tuple (by decide +kernel) (pa_cons (pe_lc (own := [("_law_at_here", 8)]) (g := gName 8) (tt := tYes) rfl nd (pi_list (pv 2)) (blkOk_by (own := [("_law_at_here", 8)]) (N := nmDrawn) (sc := defScope sDrawnRow) (by decide +kernel))
          (fun _ _ _ _ _ => pg_name (i := 8) nd rfl (Or.inl rfl) (Or.inr rfl)) (fun _ _ _ _ _ => pts_nil)
          (fun _ _ _ _ _ => pe_ix (ix_seqK (K := K) rfl) (pv 11) (pe_call FD.ok (by exact hr.mono (by decide)) (by rfl) FD.m FD.k FD.b .nil pass0 (pa_cons (pv 0) (pa_cons pe_int pa_nil))) (fun _ _ => rfl))) pa_nil))))) pss_nil)
      (pss_one (ps_ret (pe_callTy call_tuple_of (by rfl) B.tuple (by decide +kernel) (pa_cons (pe_lc (own := [("_law_at_here", 8)]) (g := gName 8) (tt := tYes) rfl nd (pi_list (pv 2)) (blkOk_by (own := [("_law_at_here", 8)]) (N := nmDrawn) (sc := defScope sDrawnRow) (by decide +kernel))
          (fun _ _ _ _ _ => pg_name (i := 8) nd rfl (Or.inl rfl) (Or.inr rfl)) (fun _ _ _ _ _ => pts_nil)
          (fun _ _ _ _ _ => pe_ifExp (pt_cmpR (op_inK (K := K) rfl) (pv 8) (pv 7) (by rfl)) (pe_ix (ix_seqK (K := K) rfl) (pv 10) (pe_toK (K := K) (rr := rIndex) rfl (pe_bm PySem.F.plainAttrs_list PySem.F.slot_list_index PySem.F.type_list_index mt_index (pv 7) (pa_cons (pv 8) pa_nil))) (fun _ _ => rfl)) (pe_tup (pa_cons pe_int (pa_cons pe_int pa_nil))))) pa_nil))))))))), ?_⟩
    refine ⟨_, rfl, p, hi, 12, rfl, hp, by omega, by decide, by decide, fun way H1 hw0 hw1 k1 p1 => ?_⟩
    have hc1 := k1 _ _ hcp hc
    have hLs1 := hLs.kept k1 hp
    dsimp only [gName]
    refine ifs_or (b0 := decide (way = 0)) (b := decide (way = 0) || (decide (way < 9) && limB lim lt)) (fun Q q => ⟨_, rfl, rfl, _, rfl, by show Q (decide (V.int way = V.int 0)) _; rw [int_dec]; exact q⟩) (fun hb0 Q q => ?_) (fun h => by rw [h]; rfl) (fun _ => ?_) fun _ => ?_
    · rw [hb0] at q
      unfold tAnd
      refine ⟨_, rfl, _, _, rfl, rfl, _, rfl, ?_⟩
      dsimp only
      by_cases h9 : way < 9
      · refine iteT' (decide_eq_true h9) ?_
        rw [decide_eq_true h9] at q
        refine ⟨_, rfl, rfl, _, rfl, ?_⟩
        cases hl : lim with
        | none =>
          rw [hl] at q hlim
          have hv : v = .non := hlim
          subst hv
          refine iteF' (by rfl) ?_
          simpa [limB] using q
        | some l0 =>
          rw [hl] at q hlim
          have hv : v = .int (l0 : Int) := hlim
          subst hv
          refine iteT' (by rfl) ⟨_, rfl, _, rfl, _, _, rfl, rfl, _, rfl, ?_⟩
          have ed : decide ((lt : Int) ≥ (l0 : Int)) = decide (l0 ≤ lt) := decide_eq_decide.2 (by omega)
          rw [ed]
          simpa [limB] using q
      · refine iteF' (decide_eq_false h9) ?_
        rw [decide_eq_false h9] at q
        simpa using q
    · exact k none H1 .non (fun ps e => by cases e) k1 (p1.wide (by omega)) .non
    dsimp only [tNext]
    have hW := hR5.w4
    have hlr := hR5.ok
    have hJl : ∀ z, (jointAt Ls z).length = widthOf Ls := joint_len hlr
    have hJs : ∀ z, z < 20 → ∀ y, y ∈ jointAt Ls z → y.natAbs < 2 ^ 80 := fun z hz y hy => Rules5.small hR5.lr (show z < 2 ^ 5 by omega) y hy
    have hJi : ∀ z i, (jointAt (Ls.take i) z).length ≤ 900 := fun z i => by
      have := jointAt_part Ls i z
      rw [hJl] at this; omega
    have hJb : ∀ L, L ∈ Ls → ∃ n b, LRB L n b ∧ b ≤ 100 := hlr
    have z1100 : ∀ z, z < 20 → z < 2 ^ 1100 := fun z hz => Nat.lt_of_lt_of_le (show z < 2 ^ 5 by omega) (Nat.pow_le_pow_right (by decide) (by decide))
    refine ⟨by show 0 ≤ sizeLine; decide, fun t1 n1 => ⟨by show 0 ≤ sizeLine; decide, fun t2 n2 => ⟨by show 2 ≤ sizeLine; decide, fun tt ntt => ?_⟩⟩⟩
    have s1 := same_new (o := .lst []) n1
    have s2 := same_new (o := .lst []) n2
    have st := same_new (o := .tup [V.ref t1, V.ref t2]) ntt
    refine ⟨tt, _, rfl, SqT.of upd_same, rfl, _, _, rfl, _, _, rfl, rfl, ?_⟩
    have g1 := (s2.trans st) _ _ (upd_same (H := H1) (a := t1) (o := .lst []))
    have g2 := st _ _ (upd_same (H := L2.upd H1 t1 (.lst [])) (a := t2) (o := .lst []))
    have nt21 : t1 ≠ t2 := ne_of_none (upd_same (H := H1) (a := t1) (o := .lst [])) n2
    have nt2H : H1 t2 = none := s1.free n2
    have s14 := s1.trans (s2.trans st)
    generalize (L2.upd (L2.upd (L2.upd H1 t1 (.lst [])) t2 (.lst [])) tt (.tup [V.ref t1, V.ref t2])) = H4 at *
    refine ⟨_, rfl, c, rfl, ⟨_, SqL.of (s14 _ _ hc1)⟩, ?_⟩
    refine for_it (walk_list (xs := natsV ns)) (fun i σ Hc => Same H1 Hc ∧ ∃ (us : List Nat) (ks : Kept2) (kk : Addr) (x8 x9 : Option V), σ = [some (.ref p), some (.ref l), some (.ref c), some (.int (lt : Int)), some v, some (.int way), some (.ref kk), some (.ref t2), x8, x9, none, none] ∧ KeptL K Hc kk ks ∧ kk ≠ t2 ∧ Hc t2 = some (.lst (natsV us)) ∧ KO (widthOf Ls) 80 (us.map (jointAt Ls)) ks)
      ⟨s14, [], [], t1, none, none, rfl, ⟨[], g1, rfl, fun i x q e => by simp at e⟩, nt21, g2, .nil⟩ (fun i σ Hc _ h => SqL.of (h.1 _ _ hc1)) ?_ ?_
    · rintro i x σ H0 Hc hi' ⟨sc, us, ks, kk, x8, x9, rfl, hK, hkt, hu, hKO⟩ ⟨rfl, hx'⟩
      rw [natsV_len] at hi'
      have ez : ns[i]? = some ns[i] := List.getElem?_eq_getElem hi'
      rw [show (natsV ns)[i]? = some (V.int (ns[i] : Int)) by unfold natsV; rw [List.getElem?_map, ez]; rfl] at hx'
      cases hx'
      have hz10 := hns _ (List.getElem_mem hi')
      generalize ns[i] = z at *
      have hul := KO.le hKO
      rw [List.length_map] at hul
      have hkl := hKO.len
      rw [List.length_map] at hkl
      refine ⟨_, rfl, _, rfl, l, Ls, z, rfl, hLs1.at.same sc, hJb, z1100 z (by omega), hJi z, fun H5 q s5 nq hq => ?_⟩
      have pre : KPre K H5 kk ks (widthOf Ls) 80 (us.map (jointAt Ls)) := ⟨(hK.same s5).at, hKO, by rw [List.length_map]; exact hul, by omega, by decide, Nat.le_trans (Nat.mul_le_mul_right _ (Nat.pow_le_pow_right (by decide) (show ks.length ≤ 4 by omega))) (by decide)⟩
      have sc5 := sc.trans s5
      dsimp only [gName]
      refine ifs_and_or (b0 := decide (z ≤ lt)) (b := decide (z ≤ lt) || decide (way = 1)) (fun Q q => ⟨_, rfl, _, rfl, _, _, rfl, rfl, _, rfl, ?_⟩) (fun h0 Q q => ⟨_, rfl, rfl, _, rfl, ?_⟩) (fun h => by rw [h]; rfl) (fun _ => ?_) fun _ => ?_
      · have ed : decide ((z : Int) ≤ (lt : Int)) = decide (z ≤ lt) := decide_eq_decide.2 (by omega)
        rw [ed]; exact q
      · rw [int_dec]
        rw [h0] at q
        simpa using q
      · refine ⟨_, rfl, _, rfl, kk, q, ks, widthOf Ls, 80, us.map (jointAt Ls), jointAt Ls z, rfl, pre, SqL.of hq, hJl z, hJs z (by omega), fun H6 w6 s6 d6 => ⟨rfl, _, rfl, ?_⟩⟩
        cases hfo : factorsOf (widthOf Ls) ks (jointAt Ls z) with
        | some ps =>
          rw [hfo] at d6
          obtain ⟨wa, _, rfl, _⟩ := dp_tup (show Dp K H6 w6 (prowD ps) from d6)
          refine iteF' (by rfl) ?_
          dsimp only [tNext]
          exact ⟨sc5.trans s6, us, ks, kk, _, _, rfl, (hK.same s5).same s6, hkt, s6 _ _ (s5 _ _ hu), hKO⟩
        | none =>
          rw [hfo] at d6
          have : w6 = .non := by cases d6; rfl
          subst this
          have hnS : ¬ L2.Halves.Span (· ∈ (us.map (jointAt Ls)).map L2.Elim.vec) (L2.Elim.vec (jointAt Ls z)) := (hKO.none_iff (by rw [List.length_map]; exact hul) (hJl z)).1 hfo
          have hlt' : (us.map (jointAt Ls)).length < widthOf Ls := foundW (J := jointAt Ls) hKO (by rw [List.length_map]; exact hul) (hJl z) hnS
          refine iteT' (by rfl) ?_
          have sc6 := sc5.trans s6
          have hK6 := (hK.same s5).same s6
          refine ⟨_, rfl, _, rfl, kk, q, ks, widthOf Ls, 80, us.map (jointAt Ls), jointAt Ls z, rfl, hK6, ⟨hK6.at, pre.2⟩, hlt', SqL.of (s6 _ _ hq), hJl z, hJs z (by omega), hnS, fun H7 k7 s7 nk7 hK7 => ?_⟩
          have hu7 := s7 _ _ (s6 _ _ (s5 _ _ hu))
          have hk72 : k7 ≠ t2 := fun e => by rw [e] at nk7; rw [s6 _ _ (s5 _ _ hu)] at nk7; cases nk7
          have hKO' := hKO.keep hlt' (hJl z) (hJs z (by omega)) (by decide) hnS
          refine ⟨_, rfl, .inl ⟨rfl, _, SqL.of hu7⟩, _, rfl, t2, _, _, rfl, rfl, hu7, small1000 (by rw [natsV_len]; omega), ?_⟩
          refine ⟨same_updF (sc6.trans s7) nt2H, us ++ [z], _, k7, _, _, rfl, hK7.upd hu7 hk72 (fun kq hkq => ?_), hk72, by rw [upd_same, natsV_app]; rfl, by rw [List.map_append]; exact hKO'⟩
          have := (hKO'.rows (by rw [List.length_append, List.length_singleton]; omega) kq hkq).len
          rw [List.length_map] at hlt'
          omega
      · dsimp only [tNext]
        exact ⟨sc5, us, ks, kk, _, _, rfl, hK.same s5, hkt, s5 _ _ hu, hKO⟩
    rintro σ Hc ⟨sc, us, ks, kk, x8, x9, rfl, hK, hkt, hu, hKO⟩
    have hul := KO.le hKO
    rw [List.length_map] at hul
    have hkl := hKO.len
    rw [List.length_map] at hkl
    have hbit : 2 ^ ks.length * 81 ≤ 1296 := Nat.le_trans (Nat.mul_le_mul_right _ (Nat.pow_le_pow_right (by decide) (show ks.length ≤ 4 by omega))) (by decide)
    refine ⟨_, rfl, _, rfl, _, rfl, l, Ls, lt, rfl, hLs1.at.same sc, hJb, z1100 lt hlt, hJi lt, fun H5 q s5 nq hq => ?_⟩
    have pre : KPre K H5 kk ks (widthOf Ls) 80 (us.map (jointAt Ls)) := ⟨(hK.same s5).at, hKO, by rw [List.length_map]; exact hul, by omega, by decide, by omega⟩
    refine ⟨kk, q, ks, widthOf Ls, 80, us.map (jointAt Ls), jointAt Ls lt, rfl, pre, SqL.of hq, hJl lt, hJs lt hlt, fun H6 w6 s6 d6 => ?_⟩
    have sc6 := sc.trans (s5.trans s6)
    have hu6 := s6 _ _ (s5 _ _ hu)
    have hc6 := sc6 _ _ hc1
    have p6 := p1.same sc6
    have k6 : Kept p H H6 := k1.trans (Same.kept sc6)
    have z2 : 2 ≤ sizeLine := by decide
    have dn : decide (w6 = .non) = (factorsOf (widthOf Ls) ks (jointAt Ls lt)).isNone := by
      cases hfo : factorsOf (widthOf Ls) ks (jointAt Ls lt) with
      | none => rw [hfo] at d6; cases d6; rfl
      | some ps =>
        rw [hfo] at d6
        obtain ⟨wa, _, rfl, _⟩ := dp_tup (show Dp K H6 w6 (prowD ps) from d6)
        rfl
    dsimp only [gName]
    refine ifs_or (b0 := (factorsOf (widthOf Ls) ks (jointAt Ls lt)).isNone) (b := (factorsOf (widthOf Ls) ks (jointAt Ls lt)).isNone || decide (way = 2)) (fun Q q => ⟨_, rfl, rfl, _, rfl, by rw [dn]; exact q⟩) (fun h0 Q q => ⟨_, rfl, rfl, _, rfl, by rw [int_dec]; rw [h0] at q; simpa using q⟩) (fun h => by rw [h]; rfl) (fun _ => ?_) fun hb => ?_
    · -- any fractions
      refine ⟨z2, fun m1 a1 => ⟨z2, fun m2 a2 => ⟨_, rfl, z2, fun m3 a3 => ⟨z2, fun m4 a4 => ⟨z2, fun m5 a5 => ⟨by show 5 ≤ sizeLine; decide, fun mm amm => ?_⟩⟩⟩⟩⟩⟩
      have e1 := same_new (o := .tup [V.int 0, V.int 1]) a1
      have e2 := same_new (o := .tup [V.int 1, V.int 1]) a2
      have e3 := same_new (o := .tup [V.int (-1), V.int 1]) a3
      have e4 := same_new (o := .tup [V.int 1, V.int 2]) a4
      have e5 := same_new (o := .tup [V.int 2, V.int 1]) a5
      have e6 := same_new (o := .lst [V.ref m1, V.ref m2, V.ref m3, V.ref m4, V.ref m5]) amm
      have e15 := e1.trans (e2.trans (e3.trans (e4.trans (e5.trans e6))))
      have dm : ∀ (d : Int), 0 ≤ d → d < 5 → ∃ (mr : Addr) (q : Int × Int), atI [V.ref m1, V.ref m2, V.ref m3, V.ref m4, V.ref m5] d = some (V.ref mr) ∧ q ∈ menuL ∧ Dp K (L2.upd (L2.upd (L2.upd (L2.upd (L2.upd (L2.upd H6 m1 (.tup [V.int 0, V.int 1])) m2 (.tup [V.int 1, V.int 1])) m3 (.tup [V.int (-1), V.int 1])) m4 (.tup [V.int 1, V.int 2])) m5 (.tup [V.int 2, V.int 1])) mm (.lst [V.ref m1, V.ref m2, V.ref m3, V.ref m4, V.ref m5])) (.ref mr) (pairD q) := fun d h0 h1 => by
        have : d = 0 ∨ d = 1 ∨ d = 2 ∨ d = 3 ∨ d = 4 := by omega
        rcases this with rfl | rfl | rfl | rfl | rfl
        · exact ⟨m1, (0, 1), rfl, by simp [menuL], pair_dp (SqT.of ((e2.trans (e3.trans (e4.trans (e5.trans e6)))) _ _ upd_same))⟩
        · exact ⟨m2, (1, 1), rfl, by simp [menuL], pair_dp (SqT.of ((e3.trans (e4.trans (e5.trans e6))) _ _ upd_same))⟩
        · exact ⟨m3, (-1, 1), rfl, by simp [menuL], pair_dp (SqT.of ((e4.trans (e5.trans e6)) _ _ upd_same))⟩
        · exact ⟨m4, (1, 2), rfl, by simp [menuL], pair_dp (SqT.of ((e5.trans e6) _ _ upd_same))⟩
        · exact ⟨m5, (2, 1), rfl, by simp [menuL], pair_dp (SqT.of (e6 _ _ upd_same))⟩
      have hmm : (L2.upd (L2.upd (L2.upd (L2.upd (L2.upd (L2.upd H6 m1 (.tup [V.int 0, V.int 1])) m2 (.tup [V.int 1, V.int 1])) m3 (.tup [V.int (-1), V.int 1])) m4 (.tup [V.int 1, V.int 2])) m5 (.tup [V.int 2, V.int 1])) mm (.lst [V.ref m1, V.ref m2, V.ref m3, V.ref m4, V.ref m5])) mm = some (.lst [V.ref m1, V.ref m2, V.ref m3, V.ref m4, V.ref m5]) := upd_same
      clear e1 e2 e3 e4 e5 e6
      have sm := e15
      generalize (L2.upd (L2.upd (L2.upd (L2.upd (L2.upd (L2.upd H6 m1 (.tup [V.int 0, V.int 1])) m2 (.tup [V.int 1, V.int 1])) m3 (.tup [V.int (-1), V.int 1])) m4 (.tup [V.int 1, V.int 2])) m5 (.tup [V.int 2, V.int 1])) mm (.lst [V.ref m1, V.ref m2, V.ref m3, V.ref m4, V.ref m5])) = Hm at *
      have pm := p6.same sm
      have mmp : mm ≠ p := pm.ne hmm (fun a b c e => by cases e)
      refine ⟨_, rfl, c, rfl, ⟨_, SqL.of (sm _ _ hc6)⟩, fun D nD => ?_⟩
      have hDp : D ≠ p := fun e => by obtain ⟨_, _, _, h1, _⟩ := pm; rw [← e, nD] at h1; cases h1
      refine lc_out (walk_list (xs := natsV ns)) (fun i Hd => ∃ (acc : List V) (ps : Frow), Kept p Hm Hd ∧ Purse Hd p (hi + 1 + i) ∧ Hd D = some (.lst acc) ∧ DpAll K Hd acc (ps.map pairD) ∧ ps.length = i ∧ ∀ q, q ∈ ps → q ∈ menuL)
        ⟨[], [], Same.kept (same_new nD), pm.upd hDp, upd_same, .nil, rfl, fun q h => by cases h⟩ (fun i Hd _ ⟨acc, ps, kO, _⟩ => SqL.of (kO _ _ hcp (sm _ _ hc6))) ?_ ?_
      · rintro i x H0 Hd hi' ⟨acc, ps, kO, pO, hO, dO, hpl, hpm⟩ ⟨rfl, hx'⟩
        rw [natsV_len] at hi'
        refine ⟨rfl, _, rfl, _, rfl, p, _, 5, rfl, pO, by omega, by decide, by decide, fun d H8 hd0 hd1 k8 p8 => ?_⟩
        obtain ⟨mr, mq, hat, hmq, dmr⟩ := dm d hd0 hd1
        have hO8 := k8 _ _ hDp hO
        have kT8 : KeepT Hd H8 := k8.keepT pO
        have al : acc.length = i := by rw [dpAll_len dO, List.length_map, hpl]
        refine SqK.ix (t := false) (SqK.ofL (k8 _ _ mmp (kO _ _ mmp hmm))) hat ⟨_, hO8, small1000 (by omega), acc ++ [V.ref mr], ps ++ [mq], fun b o hb ho => ?_, (p8.upd hDp).wide (by omega), upd_same, ?_, by simp [hpl], fun q hq => ?_⟩
        · rw [upd_ne (ne_of_none ho nD)]
          exact k8 b o hb (kO b o hb ho)
        · rw [List.map_append]
          exact dpAll_snoc (dp_keep (((kO.keepT pm).trans kT8).trans (keepT_upd hO8 rfl)) (pairD_tup _) dmr) (dpAll_keep (kT8.trans (keepT_upd hO8 rfl)) (pairs_tup _) dO)
        · rcases List.mem_append.1 hq with g | g
          · exact hpm q g
          · rw [List.mem_singleton.1 g]; exact hmq
      · rintro Hd ⟨acc, ps, kO, pO, hO, dO, hpl, hpm⟩
        rw [natsV_len] at hpl pO
        refine ⟨D, _, rfl, .inl ⟨SqL.of hO, fun r nr => ?_⟩⟩
        have sr := same_new (o := .tup acc) nr
        exact k (some ps) _ (.ref r) (fun ps' e => by cases e; exact ⟨hpl, menu_tame hpm⟩) (((k6.trans (Same.kept sm)).trans kO).trans (Same.kept sr)) ((pO.same sr).wide (by omega)) (.tup (SqT.of upd_same) (dpAll_same sr dO))
    -- the factors of those that were kept
    dsimp only [tNext]
    cases hfo : factorsOf (widthOf Ls) ks (jointAt Ls lt) with
    | none => rw [hfo] at hb; simp at hb
    | some ps =>
    rw [hfo] at d6
    obtain ⟨wa, xw, rfl, hwa, hxw⟩ := dp_tup (show Dp K H6 w6 (prowD ps) from d6)
    have tm := factors_tame hKO (by rw [List.length_map]; exact hul) (hJl lt) (hJs lt hlt) (by decide) hfo
    have tm2 : Tame 2000 ps := by
      obtain ⟨⟨T, a1, a2, a3⟩, a4⟩ := tm.1
      have pp : (2 : Nat) ^ (2 ^ ks.length * (80 + 1)) ≤ 2 ^ 2000 := Nat.pow_le_pow_right (by decide) (by omega)
      exact ⟨⟨T, a1, by omega, a3⟩, fun p hp => ⟨(a4 p hp).1, by have := (a4 p hp).2.1; omega, (a4 p hp).2.2⟩⟩
    have hpl : ps.length = us.length := by rw [tm.2, hkl]
    have hxl : xw.length = ps.length := by rw [dpAll_len hxw, List.length_map]
    refine ⟨_, rfl, c, rfl, ⟨_, SqL.of hc6⟩, fun D nD => ?_⟩
    refine lc_out (walk_list (xs := natsV ns)) (fun i Hd => ∃ qs : Frow, GrowD K H6 D (qs.map pairD) Hd ∧ qs.length = i ∧ ∀ q, q ∈ qs → q ∈ ps ∨ q = (0, 1)) ⟨[], GrowD.start nD, rfl, fun q h => by cases h⟩ (fun i Hd _ ⟨_, ⟨_, g, _⟩, _⟩ => SqL.of (g.s _ _ hc6)) ?_ ?_
    · rintro i x H0 Hd hi' ⟨qs, ⟨acc, g, da⟩, hql, hqs⟩ ⟨rfl, hx'⟩
      rw [natsV_len] at hi'
      have ez : ns[i]? = some ns[i] := List.getElem?_eq_getElem hi'
      rw [show (natsV ns)[i]? = some (V.int (ns[i] : Int)) by unfold natsV; rw [List.getElem?_map, ez]; rfl] at hx'
      cases hx'
      generalize ns[i] = z at *
      refine ⟨rfl, _, rfl, _, rfl, t2, _, rfl, .inl (SqL.of (g.s _ _ hu6)), rfl, flat_nats us, ?_⟩
      rw [if_neg (by decide), inV_nats]
      by_cases hz : z ∈ us
      · obtain ⟨j, hj1, hj2⟩ := first_idx hz
        have hjl := (List.getElem?_eq_some_iff.1 hj1).1
        refine ⟨_, rfl, iteT' (decide_eq_true hz) ⟨_, rfl, _, rfl, .inl ⟨rfl, _, SqL.of (g.s _ _ hu6)⟩, _, rfl, t2, natsV us, _, j, .int (z : Int), rfl, rfl, SqL.of (g.s _ _ hu6), rfl, flat_nats us, by unfold natsV; rw [List.getElem?_map, hj1]; rfl, by show ((z : Int) == (z : Int)) = true; simp, fun m z' hm hz' => ?_, ?_⟩⟩
        · unfold natsV at hz'
          rw [List.getElem?_map] at hz'
          cases em : us[m]? with
          | none => rw [em] at hz'; cases hz'
          | some y =>
            rw [em] at hz'
            cases hz'
            have := hj2 m hm y em
            show ((y : Int) == (z : Int)) = false
            simp; omega
        · have ex : xw[j]? = some (xw[j]'(by omega)) := List.getElem?_eq_getElem (by omega)
          obtain ⟨dx, f1, f2⟩ := dpAll_get' hxw ex
          rw [List.getElem?_map, List.getElem?_eq_getElem (by omega)] at f1
          cases f1
          refine SqK.ix (t := true) (same_tup g.s hwa) (atI_nat ex) ?_
          refine GrowD.step nD ⟨acc, g, da⟩ (Same.refl Hd) (d := pairD (ps[j]'(by omega))) (dp_same g.s f2) (pairD_tup _) (pairs_tup _) (by rw [List.length_map]; omega) (Nx := fun Hd => ∃ qs : Frow, GrowD K H6 D (qs.map pairD) Hd ∧ qs.length = i + 1 ∧ ∀ q, q ∈ qs → q ∈ ps ∨ q = (0, 1)) fun Hn gn => ⟨qs ++ [ps[j]'(by omega)], by rw [List.map_append]; exact gn, by simp [hql], fun q hq => ?_⟩
          rcases List.mem_append.1 hq with e | e
          · exact hqs q e
          · rw [List.mem_singleton.1 e]; exact .inl (List.getElem_mem _)
      · refine ⟨_, rfl, iteF' (decide_eq_false hz) ⟨z2, fun tz ntz => ?_⟩⟩
        have stz := same_new (o := .tup [V.int 0, V.int 1]) ntz
        refine GrowD.step nD ⟨acc, g, da⟩ stz (d := pairD (0, 1)) (pair_dp (SqT.of upd_same)) (pairD_tup _) (pairs_tup _) (by rw [List.length_map]; omega) (Nx := fun Hd => ∃ qs : Frow, GrowD K H6 D (qs.map pairD) Hd ∧ qs.length = i + 1 ∧ ∀ q, q ∈ qs → q ∈ ps ∨ q = (0, 1)) fun Hn gn => ⟨qs ++ [(0, 1)], by rw [List.map_append]; exact gn, by simp [hql], fun q hq => ?_⟩
        rcases List.mem_append.1 hq with e | e
        · exact hqs q e
        · exact .inr (List.mem_singleton.1 e)
    · rintro Hd ⟨qs, ⟨acc, g, da⟩, hql, hqs⟩
      rw [natsV_len] at hql
      refine ⟨D, _, rfl, .inl ⟨SqL.of g.d, fun r nr => ?_⟩⟩
      have sr := same_new (o := .tup acc) nr
      exact k (some qs) _ (.ref r) (fun ps' e => by cases e; exact ⟨hql, tame_sub tm2 (by decide) hqs⟩) (k6.trans (Same.kept (g.s.trans sr))) ((p6.same (g.s.trans sr)).wide (by omega)) (.tup (SqT.of upd_same) (dpAll_same sr da))
end
end L2.EH
end S_U3
section S_U4
set_option exponentiation.threshold 20000
set_option maxRecDepth 100000
set_option maxHeartbeats 4000000
namespace L2.EH
open PySem PySem.Spec PyProof.Rows StX
structure PaperGood (ns : List Nat) (rs : List Fpair) : Prop where
  asc : ns.Pairwise (· < ·)
  lt : ∀ z, z ∈ ns → z < 10
  few : ns.length ≤ 10
  len : rs.length = ns.length
  row : ∀ p, p ∈ rs → RowGood ns.length p.1 ∧ RowGood ns.length p.2
def spPaper (K : PySem.W.Frag) : Sp := fun vs H Q _ => ∃ (p l : Addr) (v : V) (hi : Nat) (Ls : List LR) (lim : Option Nat), vs = [.ref p, .ref l, v] ∧ Purse H p hi ∧ hi ≤ 40000 ∧ LawsD K H l Ls ∧ Rules5 Ls ∧ LimAt v lim ∧
  ∀ ns rs H' q, PaperGood ns rs → Kept p H H' → Purse H' p (hi + 600) → Dp K H' (.ref q) (paperD ns rs) → Q (.ref q) H'
abbrev nmPaper : List Str := ["_law_source_here", "_law_rules", "_law_limit", "_law_numbers", "_law_pairs", "_law_at_here", "_law_rows", "_law_digit"]
theorem scPaper : FnScope ["_law_source_here", "_law_rules", "_law_limit", "_law_numbers", "_law_pairs", "_law_at_here", "_law_rows", "_law_digit"] ["_law_source_here", "_law_rules", "_law_limit"] (defScope sPaper) := ⟨rfl, rfl, rfl, by decide +kernel, rfl, by decide +kernel, by decide +kernel⟩
theorem opt_tup (os : List (Option Frow)) : tupsOnly (os.map optD) = true := tupsOnly_map optD optD_tup os
def tPaperRest (K : PySem.W.Frag) : TS := tSeq (tAsg (tLst tNil) (gName 4)) (tSeq (tFor (iList K (tVar 3)) (gName 5) (tSeq (tAsg (tLc (iRng1 (tCons (tC (.int 2)) tNil)) (gName 7) tYes (tCall (spDrawnRow K) [] E0 (tCons (tVar 0) (tCons (tVar 1) (tCons (tVar 3) (tCons (tOp (rI0 fun i j => .int (i + j)) (tOp (rI CMul fun i j => .int (i * j)) (tC (.int 2)) (tVar 5)) (tVar 7)) (tCons (tVar 2) tNil)))))) [7]) (gName 6))
  (tDrop (tBM K "list" rAppend (tVar 4) (tCons (tCB (rTupOf K) (tCons (tVar 6) tNil)) tNil)))))
  (tRet (tTup (tCons (tCB (rTupOf K) (tCons (tVar 3) tNil)) (tCons (tCB (rTupOf K) (tCons (tVar 4) tNil)) tNil)))))
theorem paper_rest {K : PySem.W.Frag} {p l c : Addr} {v : V} {hi : Nat} {Ls : List LR} {lim : Option Nat} {H : Hp} {ns : List Nat} {Q : VK} {x5 : Option V} (hp : Purse H p hi) (hhi : hi ≤ 45000) (hLs : LawsD K H l Ls) (hR5 : Rules5 Ls) (hlim : LimAt v lim) (hc : H c = some (.lst (natsV ns))) (hcp : c ≠ p)
    (ha : ns.Pairwise (· < ·)) (hz : ∀ z, z ∈ ns → z < 10) (hl : ns.length ≤ 10) (k : ∀ rs H' q, PaperGood ns rs → Kept p H H' → Purse H' p (hi + 500) → Dp K H' (.ref q) (paperD ns rs) → Q (.ref q) H') :
    tPaperRest K { nx := fun _ H' => Q .non H', rt := Q } [some (.ref p), some (.ref l), some v, some (.ref c), none, x5, none, none] H := by
  refine ⟨by show 0 ≤ sizeLine; decide, fun t4 n4 => ?_⟩
  have s4 := same_new (o := .lst []) n4
  have g4 : (L2.upd H t4 (.lst [])) t4 = some (.lst []) := upd_same
  have t4p : t4 ≠ p := fun e => by obtain ⟨_, _, _, h1, _⟩ := hp; rw [← e, n4] at h1; cases h1
  have nc4 : c ≠ t4 := ne_of_none hc n4
  have p4 := hp.same s4
  have hc4 := s4 _ _ hc
  have hL4 := hLs.same s4
  generalize (L2.upd H t4 (.lst [])) = H4 at *
  refine ⟨_, rfl, c, rfl, ⟨_, SqL.of hc4⟩, ?_⟩
  refine for_it (walk_list (xs := natsV ns)) (fun i σ Hc => Kept p H Hc ∧ Hc c = some (.lst (natsV ns)) ∧ Purse Hc p (hi + 45 * i) ∧ ∃ (acc : List V) (rs : List Fpair) (y5 y6 : Option V), σ = [some (.ref p), some (.ref l), some v, some (.ref c), some (.ref t4), y5, y6, none] ∧ Hc t4 = some (.lst acc) ∧ DpAll K Hc acc (rs.map dupD) ∧ rs.length = i ∧ ∀ q, q ∈ rs → RowGood ns.length q.1 ∧ RowGood ns.length q.2)
    ⟨Same.kept s4, hc4, p4, [], [], x5, none, rfl, g4, .nil, rfl, fun q h => by cases h⟩ (fun i σ Hc _ h => SqL.of h.2.1) ?_ ?_
  · rintro i x σ H0 Hc hi' ⟨kc, hcc, pc, acc, rs, y5, y6, rfl, hac, da, hrl, hrs⟩ ⟨rfl, hx'⟩
    rw [natsV_len] at hi'
    have ez : ns[i]? = some ns[i] := List.getElem?_eq_getElem hi'
    rw [show (natsV ns)[i]? = some (V.int (ns[i] : Int)) by unfold natsV; rw [List.getElem?_map, ez]; rfl] at hx'
    cases hx'
    have hz10 := hz _ (List.getElem_mem hi')
    generalize ns[i] = z at *
    have hLc := hLs.kept kc hp
    refine ⟨(2 : Int), rfl, by decide, by decide, fun D nD => ?_⟩
    have hDp : D ≠ p := fun e => by obtain ⟨_, _, _, h1, _⟩ := pc; rw [← e, nD] at h1; cases h1
    have hDc : c ≠ D := ne_of_none hcc nD
    have hD4 : t4 ≠ D := ne_of_none hac nD
    refine lc_out (walk_range (lo := 0) (n := 2)) (fun j Hd => ∃ (ac : List V) (os : List (Option Frow)), Kept p Hc Hd ∧ Purse Hd p (hi + 45 * i + 20 * j) ∧ Hd D = some (.lst ac) ∧ DpAll K Hd ac (os.map optD) ∧ os.length = j ∧ ∀ o, o ∈ os → RowGood ns.length o)
      ⟨[], [], Same.kept (same_new nD), pc.upd hDp, upd_same, .nil, rfl, fun o h => by cases h⟩ (fun _ _ _ _ => trivial) ?_ ?_
    · rintro j y H00 Hd hj ⟨ac, os, kO, pO, hO, dO, hol, hos⟩ ⟨rfl, rfl⟩
      have eI : ((0 : Int) + (j : Nat)) = (j : Int) := by omega
      show gName 7 (V.int (0 + (j : Nat))) _ _ _
      rw [eI]
      refine ⟨rfl, _, rfl, _, rfl, _, rfl, _, rfl, _, _, rfl, rfl, .inl ⟨by decide, by decide⟩, _, rfl, _, _, rfl, rfl, _, rfl, p, l, c, v, _, Ls, ns, 2 * z + j, lim, ?_, pO, by omega, hLc.kept kO pc, hR5, kO _ _ hcp hcc, hcp, hlim, hl, hz, by omega, fun o H8 wv hg k8 p8 d8 => ?_⟩
      · show [V.ref p, V.ref l, V.ref c, V.int (2 * (z : Int) + (j : Int)), v] = _
        rw [show (2 * (z : Int) + (j : Int)) = ((2 * z + j : Nat) : Int) by omega]
      have hO8 := k8 _ _ hDp hO
      have kT8 : KeepT Hd H8 := k8.keepT pO
      have al : ac.length = j := by rw [dpAll_len dO, List.length_map, hol]
      refine ⟨ac, hO8, small1000 (by omega), ac ++ [wv], os ++ [o], fun b o' hb ho => ?_, (p8.upd hDp).wide (by omega), upd_same, ?_, by simp [hol], fun o' ho' => ?_⟩
      · rw [upd_ne (ne_of_none ho nD)]
        exact k8 b o' hb (kO b o' hb ho)
      · rw [List.map_append]
        exact dpAll_snoc (dp_keep (keepT_upd hO8 rfl) (optD_tup _) d8) (dpAll_keep (kT8.trans (keepT_upd hO8 rfl)) (opt_tup _) dO)
      · rcases List.mem_append.1 ho' with g | g
        · exact hos o' g
        · rw [List.mem_singleton.1 g]; exact hg
    rintro Hd ⟨ac, os, kO, pO, hO, dO, hol, hos⟩
    obtain ⟨o1, o2, rfl⟩ : ∃ o1 o2, os = [o1, o2] := by
      match os, hol with
      | [a, b], _ => exact ⟨a, b, rfl⟩
    have hacd := kO _ _ (fun e => t4p e) hac
    refine ⟨_, rfl, .inl ⟨rfl, _, SqL.of hacd⟩, _, rfl, D, _, rfl, .inl ⟨SqL.of hO, fun q nq => ?_⟩⟩
    have sq := same_new (o := .tup ac) nq
    have dq : Dp K (L2.upd Hd q (.tup ac)) (.ref q) (dupD (o1, o2)) := .tup (SqT.of upd_same) (dpAll_same sq dO)
    have al : acc.length = i := by rw [dpAll_len da, List.length_map, hrl]
    have hacq := sq _ _ hacd
    have kq : Kept p H (L2.upd Hd q (.tup ac)) := (kc.trans kO).trans (Same.kept sq)
    have hcq := sq _ _ (kO _ _ hcp hcc)
    have pq := pO.same sq
    have daq : DpAll K (L2.upd Hd q (.tup ac)) acc (rs.map dupD) := dpAll_same sq (dpAll_keep (kO.keepT pc) (tupsOnly_map dupD dupD_tup _) da)
    generalize (L2.upd Hd q (.tup ac)) = He at *
    refine ⟨t4, acc, _, rfl, rfl, hacq, small1000 (by omega), fun b o hb ho => ?_, by rw [upd_ne nc4]; exact hcq, (pq.upd t4p).wide (by omega), acc ++ [V.ref q], rs ++ [(o1, o2)], _, _, rfl, upd_same, ?_, by simp [hrl], fun q' hq' => ?_⟩
    · rw [upd_ne (ne_of_none ho n4)]; exact kq b o hb ho
    · rw [List.map_append]
      exact dpAll_snoc (dp_keep (keepT_upd hacq rfl) (dupD_tup _) dq) (dpAll_keep (keepT_upd hacq rfl) (tupsOnly_map dupD dupD_tup _) daq)
    · rcases List.mem_append.1 hq' with g | g
      · exact hrs q' g
      · rw [List.mem_singleton.1 g]; exact ⟨hos o1 (by simp), hos o2 (by simp)⟩
  · rintro σ Hc ⟨kc, hcc, pc, acc, rs, y5, y6, rfl, hac, da, hrl, hrs⟩
    rw [natsV_len] at hrl pc
    refine ⟨_, rfl, c, _, rfl, .inl ⟨SqL.of hcc, fun a na => ?_⟩⟩
    have sa := same_new (o := .tup (natsV ns)) na
    refine ⟨_, rfl, t4, _, rfl, .inl ⟨SqL.of (sa _ _ hac), fun b nb => ⟨by show 2 ≤ sizeLine; decide, fun r nr => ?_⟩⟩⟩
    have sb := same_new (o := .tup acc) nb
    have sr := same_new (o := .tup [V.ref a, V.ref b]) nr
    have sall := sa.trans (sb.trans sr)
    refine k rs _ r ⟨ha, hz, hl, hrl, hrs⟩ (kc.trans (Same.kept sall)) ((pc.same sall).wide (by omega)) (.tup (SqT.of upd_same) (.cons ?_ (.cons ?_ .nil)))
    · refine row_dp ?_
      rw [natsV_I]
      exact SqT.of ((sb.trans sr) _ _ upd_same)
    · exact .tup (SqT.of (sr _ _ upd_same)) (dpAll_same sall da)
section
variable {P : Program} {w : World} {K : PySem.W.Frag} {mg : Str → Option Value} {base : Heap}
theorem ok_paper {f fD fR : Addr} {fd fdD fdR : FuncData} (F : Fun K "_law_paper" "_law_paper" sPaper f fd) (B : BN mg) (FD : Fn' P w K mg base 1 "_law_draw" fD fdD ["_law_source_here", "_law_many"] spDraw)
    (FR : Fn' P w K mg base 5 "_law_drawn_row" fR fdR ["_law_source_here", "_law_rules", "_law_numbers", "_law_later", "_law_limit"] (spDrawnRow K)) :
    FnOk P w K mg base CX0 6 f fd ["_law_source_here", "_law_rules", "_law_limit"] (spPaper K) := by
  refine F.ok scPaper (fun vs H Q E h => ?_) (fun cdv A outer s H vs Q E hr h => ?_)
  · obtain ⟨p, l, v, hi, Ls, lim, rfl, _⟩ := h
    rfl
  · obtain ⟨p, l, v, hi, Ls, lim, rfl, hp, hhi, hLs, hR5, hlim, k⟩ := h
    have nd := scPaper.nd
    refine ⟨_, pss_cons (ps_set (i := 3) nd rfl (Or.inr rfl) (pe_lc (own := [("_law_at_here", 5)]) (g := gName 5) rfl nd (pi_range1 (by rfl) B.range (pa_cons pe_int pa_nil)) (blkOk_by (own := [("_law_at_here", 5)]) (N := nmPaper) (sc := defScope sPaper) (by decide +kernel))
        (fun _ _ _ _ _ => pg_name (i := 5) nd rfl (Or.inl rfl) (Or.inr rfl))
        (fun _ _ _ _ _ => pts_one (PW.pt (pw_or (pt_cmpR op_lt (pe_call FD.ok (by exact hr.mono (by decide)) (by rfl) FD.m FD.k FD.b .nil pass0 (pa_cons (pv 0) (pa_cons pe_int pa_nil))) pe_int (nomark _)) (pw_or1 (PW.pt (pw_and (pt_cmpR op_lt (pv 5) pe_int (nomark _)) (pw_and1 (pt_cmpR op_gt (pe_call FD.ok (by exact hr.mono (by decide)) (by rfl) FD.m FD.k FD.b .nil pass0 (pa_cons (pv 0) (pa_cons pe_int pa_nil))) pe_int (nomark _))))))))) (fun _ _ _ _ _ => pv 5)))
      (pss_cons (ps_if (PW.pt (pw_and (pt_cmpR op_notN (pv 2) pe_non (by rfl)) (pw_and1 (pt_cmpR op_gt (pe_call FD.ok (by exact hr.mono (by decide)) (by rfl) FD.m FD.k FD.b .nil pass0 (pa_cons (pv 0) (pa_cons pe_int pa_nil))) pe_int (nomark _)))))
        (pss_one (ps_set (i := 3) nd rfl (Or.inr rfl) (pe_lc (own := [("_law_at_here", 5)]) (g := gName 5) rfl nd (pi_list (pv 3)) (blkOk_by (own := [("_law_at_here", 5)]) (N := nmPaper) (sc := defScope sPaper) (by decide +kernel))
          (fun _ _ _ _ _ => pg_name (i := 5) nd rfl (Or.inl rfl) (Or.inr rfl)) (fun _ _ _ _ _ => pts_one (pt_cmpR op_lt (pv 5) (pv 2) (nomark _))) (fun _ _ _ _ _ => pv 5)))) pss_nil)
      (pss_cons (ps_set (i := 4) nd rfl (Or.inl rfl) (pe_lst pa_nil))
      (pss_cons (ps_for PassesOwn.never rfl (pi_list (pv 3)) (pg_name (i := 5) nd rfl (Or.inr rfl))
        (pss_cons (ps_setLc (i := 6) (own := [("_law_digit", 7)]) (g := gName 7) (tt := tYes) (by rfl) nd rfl rfl (sw_true rfl rfl rfl (by decide +kernel)) (pi_range1 (by rfl) B.range (pa_cons pe_int pa_nil)) (blkOk_by (own := [("_law_digit", 7)]) (N := nmPaper) (sc := defScope sPaper) (by decide +kernel))
          (fun _ _ _ _ _ => pg_name (i := 7) nd rfl (Or.inl rfl) (Or.inr rfl)) (fun _ _ _ _ _ => pts_nil)
          (fun _ _ _ _ _ => pe_call FR.ok (by exact hr) (by rfl) FR.m FR.k FR.b .nil pass0 (pa_cons (pv 0) (pa_cons (pv 1) (pa_cons (pv 3) (pa_cons (pe_op op_add (pe_op op_mul pe_int (pv 5)) (pv 7)) (pa_cons (pv 2) pa_nil)))))))
        (pss_one (ps_expr (pe_bm PySem.F.plainAttrs_list PySem.F.slot_list_append PySem.F.type_list_append mt_append (pv 4) (pa_cons (pe_callTy call_tuple_of (by rfl) B.tuple (by decide +kernel) (pa_cons (pv 6) pa_nil)) pa_nil))))))
      (pss_one (ps_ret (pe_tup (pa_cons (pe_callTy call_tuple_of (by rfl) B.tuple (by decide +kernel) (pa_cons (pv 3) pa_nil)) (pa_cons (pe_callTy call_tuple_of (by rfl) B.tuple (by decide +kernel) (pa_cons (pv 4) pa_nil)) pa_nil)))))))), ?_⟩
    -- the numbers
    refine ⟨(10 : Int), rfl, by decide, by decide, fun c nc => ?_⟩
    have hcp : c ≠ p := fun e => by obtain ⟨_, _, _, h1, _⟩ := hp; rw [← e, nc] at h1; cases h1
    refine lc_out (walk_range (lo := 0) (n := 10)) (fun i Hd => ∃ ns : List Nat, Kept p H Hd ∧ Purse Hd p (hi + 2 * i) ∧ Hd c = some (.lst (natsV ns)) ∧ ns.Pairwise (· < ·) ∧ (∀ z, z ∈ ns → z < i) ∧ ns.length ≤ i) ⟨[], Same.kept (same_new nc), hp.upd hcp, upd_same, .nil, (fun z h => by cases h), Nat.le_refl _⟩ (fun _ _ _ _ => trivial) ?_ ?_
    · rintro i x H0 Hd hi' ⟨ns, kO, pO, hO, ha, hz, hl⟩ ⟨rfl, rfl⟩
      have eI : ((0 : Int) + (i : Nat)) = (i : Int) := by omega
      show gName 5 (V.int (0 + (i : Nat))) _ _ _
      rw [eI]
      have take : ∀ (H' : Hp) (h' : Nat), Kept p H H' → Purse H' p h' → h' ≤ hi + 2 * (i + 1) → H' c = some (.lst (natsV ns)) → ∃ acc, H' c = some (.lst acc) ∧ acc.length < sizeLine ∧ (∃ ns : List Nat, Kept p H (L2.upd H' c (.lst (acc ++ [V.int (i : Int)]))) ∧ Purse (L2.upd H' c (.lst (acc ++ [V.int (i : Int)]))) p (hi + 2 * (i + 1)) ∧ (L2.upd H' c (.lst (acc ++ [V.int (i : Int)]))) c = some (.lst (natsV ns)) ∧ ns.Pairwise (· < ·) ∧ (∀ z, z ∈ ns → z < i + 1) ∧ ns.length ≤ i + 1) := fun H' h' k' p' hh hc' =>
        ⟨natsV ns, hc', small1000 (by rw [natsV_len]; omega), ns ++ [i], fun b o hb ho => by rw [upd_ne (ne_of_none ho nc)]; exact k' b o hb ho, (p'.upd hcp).wide hh, by rw [upd_same, natsV_app]; rfl, List.pairwise_append.2 ⟨ha, by simp, fun a ha' b hb' => by rw [List.mem_singleton.1 hb']; exact hz a ha'⟩, fun z hz' => by
          rcases List.mem_append.1 hz' with g | g
          · have := hz z g; omega
          · rw [List.mem_singleton.1 g]; omega, by simp; omega⟩
      have skip : ∀ (H' : Hp) (h' : Nat), Kept p H H' → Purse H' p h' → h' ≤ hi + 2 * (i + 1) → H' c = some (.lst (natsV ns)) → ∃ ns : List Nat, Kept p H H' ∧ Purse H' p (hi + 2 * (i + 1)) ∧ H' c = some (.lst (natsV ns)) ∧ ns.Pairwise (· < ·) ∧ (∀ z, z ∈ ns → z < i + 1) ∧ ns.length ≤ i + 1 := fun H' h' k' p' hh hc' => ⟨ns, k', p'.wide hh, hc', ha, fun z hz' => by have := hz z hz'; omega, by omega⟩
      refine ⟨rfl, ?_⟩
      refine ⟨_, rfl, p, _, 5, rfl, pO, by omega, by decide, by decide, fun d H3 hd0 hd1 k3 p3 => ⟨_, _, rfl, rfl, _, rfl, ?_⟩⟩
      have k03 := kO.trans k3
      have hc3 := k3 _ _ hcp hO
      by_cases hd : d < 2
      · refine iteT' (decide_eq_true hd) (iteT' rfl ⟨_, rfl, take H3 _ k03 p3 (by omega) hc3⟩)
      refine iteF' (decide_eq_false hd) ?_
      unfold tAnd
      refine ⟨_, rfl, _, _, rfl, rfl, _, rfl, ?_⟩
      by_cases h2 : (i : Int) < 2
      · refine iteT' (decide_eq_true h2) ?_
        refine ⟨_, rfl, p, _, 4, rfl, p3, by omega, by decide, by decide, fun d' H4 he0 he1 k4 p4 => ⟨_, _, rfl, rfl, _, rfl, ?_⟩⟩
        by_cases h0 : 0 < d'
        · exact iteT' (decide_eq_true h0) ⟨_, rfl, take H4 _ (k03.trans k4) p4 (by omega) (k4 _ _ hcp hc3)⟩
        · exact iteF' (decide_eq_false h0) (skip H4 _ (k03.trans k4) p4 (by omega) (k4 _ _ hcp hc3))
      · exact iteF' (decide_eq_false h2) (iteF' rfl (skip H3 _ k03 p3 (by omega) hc3))
    rintro H1 ⟨ns1, k1, p1, hc1, ha1, hz1, hl1⟩
    have hns1 : ∀ z, z ∈ ns1 → z < 10 := hz1
    have hnl1 : ns1.length ≤ 10 := hl1
    dsimp only [gName]
    have hL1 := hLs.kept k1 hp
    -- what goes on
    have rest : ∀ (c : Addr) (H2 : Hp) (ns : List Nat) (x5 : Option V), c ≠ p → Kept p H H2 → Purse H2 p (hi + 30) → H2 c = some (.lst (natsV ns)) → ns.Pairwise (· < ·) → (∀ z, z ∈ ns → z < 10) → ns.length ≤ 10 → LawsD K H2 l Ls →
        tPaperRest K { nx := fun _ H' => Q .non H', rt := Q } [some (.ref p), some (.ref l), some v, some (.ref c), none, x5, none, none] H2 := fun c H2 ns x5 hcp' k2 p2 hc2 ha hz hl hL2 =>
      paper_rest p2 (by omega) hL2 hR5 hlim hc2 hcp' ha hz hl fun rs H' q hg k' p' d => k ns rs H' q hg (k2.trans k') (p'.wide (by omega)) d
    cases hlm : lim with
    | none =>
      rw [hlm] at hlim
      have hv : v = .non := hlim
      subst hv
      unfold tSeq tIfS tAnd
      refine ⟨_, rfl, rfl, _, rfl, iteF' (by rfl) (iteF' rfl ?_)⟩
      exact rest c H1 ns1 none hcp k1 (p1.wide (by omega)) hc1 ha1 hns1 hnl1 hL1
    | some l0 =>
      rw [hlm] at hlim
      have hv : v = .int (l0 : Int) := hlim
      subst hv
      unfold tSeq tIfS tAnd
      refine ⟨_, rfl, rfl, _, rfl, iteT' (by rfl) ?_⟩
      refine ⟨_, rfl, p, _, 4, rfl, p1, by omega, by decide, by decide, fun d H2 hd0 hd1 k2 p2 => ⟨_, _, rfl, rfl, _, rfl, ?_⟩⟩
      have hc2 := k2 _ _ hcp hc1
      have hL2 := hL1.kept k2 p1
      have k02 := k1.trans k2
      by_cases h0 : 0 < d
      · refine iteT' (decide_eq_true h0) ?_
        refine ⟨_, rfl, c, rfl, ⟨_, SqL.of hc2⟩, fun D nD => ?_⟩
        refine lc_out (walk_list (xs := natsV ns1)) (fun i Hd => Grow H2 D (natsV ((ns1.take i).filter fun z => decide (z < l0))) Hd) (Grow.start nD) (fun i Hd _ g => SqL.of (g.s _ _ hc2)) ?_ ?_
        · rintro i x H0 Hd hi' g ⟨rfl, hx'⟩
          rw [natsV_len] at hi'
          have ez : ns1[i]? = some ns1[i] := List.getElem?_eq_getElem hi'
          rw [show (natsV ns1)[i]? = some (V.int (ns1[i] : Int)) by unfold natsV; rw [List.getElem?_map, ez]; rfl] at hx'
          cases hx'
          have tk := take_snoc' ns1 i _ ez
          generalize ns1[i] = z at *
          refine ⟨rfl, _, rfl, _, rfl, _, _, rfl, rfl, _, rfl, ?_⟩
          rw [tk, List.filter_append]
          by_cases hzl : z < l0
          · refine iteT' (decide_eq_true (by omega)) ⟨_, rfl, _, g.d, small1000 ?_, ?_⟩
            · rw [natsV_len]
              have := List.length_filter_le (fun z => decide (z < l0)) (ns1.take i)
              rw [List.length_take] at this
              omega
            · rw [List.filter_cons_of_pos (by simpa using hzl), List.filter_nil, natsV_app]
              exact g.step nD (V.int (z : Int))
          · refine iteF' (decide_eq_false (by omega)) ?_
            rw [List.filter_cons_of_neg (by simpa using hzl), List.filter_nil, List.append_nil]
            exact g
        · intro H3 g
          rw [natsV_len, List.take_length] at g
          have hDp : D ≠ p := fun e => by obtain ⟨_, _, _, h1, _⟩ := p2; rw [← e, nD] at h1; cases h1
          have hsub := List.filter_sublist (p := fun z => decide (z < l0)) (l := ns1)
          exact rest D H3 _ none hDp (k02.trans (Same.kept g.s)) ((p2.same g.s).wide (by omega)) g.d (ha1.sublist hsub) (fun z hz => hns1 z (hsub.subset hz)) (by have := hsub.length_le; omega) (hL2.same g.s)
      · refine iteF' (decide_eq_false h0) ?_
        exact rest c H2 ns1 none hcp k02 (p2.wide (by omega)) hc2 ha1 hns1 hnl1 hL2
end
end L2.EH
end S_U4
section S_U5
set_option exponentiation.threshold 30000
set_option maxRecDepth 100000
set_option maxHeartbeats 4000000
namespace L2.EH
open PySem PySem.Spec PyProof.Rows StX
open L2.Elim (at0 fv fsum Hits)
/-! ### whether fractions make a row -/
def botOf (ps : Frow) : Int := ps.foldl (fun b p => b * p.2) 1
theorem botOf_snoc (ps : Frow) (p : Int × Int) : botOf (ps ++ [p]) = botOf ps * p.2 := by simp [botOf]
theorem bot_foldl : ∀ (ps : Frow) (b : Int), ps.foldl (fun b p => b * p.2) b = b * botOf ps
  | [], b => by simp [botOf]
  | p :: ps, b => by
    have h1 := bot_foldl ps (b * p.2)
    have h2 := bot_foldl ps (1 * p.2)
    show ps.foldl (fun b p => b * p.2) (b * p.2) = b * ps.foldl (fun b p => b * p.2) (1 * p.2)
    rw [h1, h2, Int.one_mul, Int.mul_assoc]
theorem dvd_bot : ∀ {ps : Frow} {p : Int × Int}, p ∈ ps → p.2 ∣ botOf ps
  | q :: ps, p, h => by
    have e : botOf (q :: ps) = q.2 * botOf ps := by
      show ps.foldl (fun b p => b * p.2) (1 * q.2) = _
      rw [bot_foldl, Int.one_mul]
    rw [e]
    rcases List.mem_cons.1 h with g | g
    · rw [g]; exact Int.dvd_mul_right _ _
    · exact Int.dvd_trans (dvd_bot g) (Int.dvd_mul_left _ _)
theorem bot_pos : ∀ {ps : Frow}, (∀ p, p ∈ ps → 0 < p.2) → 0 < botOf ps
  | [], _ => by decide
  | q :: ps, h => by
    have e : botOf (q :: ps) = q.2 * botOf ps := by
      show ps.foldl (fun b p => b * p.2) (1 * q.2) = _
      rw [bot_foldl, Int.one_mul]
    rw [e]
    exact Int.mul_pos (h q (by simp)) (bot_pos fun p hp => h p (by simp [hp]))
theorem bot_small {B : Nat} (hB : 0 < B) : ∀ {ps : Frow}, (∀ p, p ∈ ps → p.2.natAbs < 2 ^ B) → (botOf ps).natAbs < 2 ^ (B * ps.length + 1)
  | [], _ => by show 1 < _; exact Nat.one_lt_two_pow (by omega)
  | q :: ps, h => by
    have e : botOf (q :: ps) = q.2 * botOf ps := by
      show ps.foldl (fun b p => b * p.2) (1 * q.2) = _
      rw [bot_foldl, Int.one_mul]
    have ih := bot_small hB (ps := ps) fun p hp => h p (by simp [hp])
    have := wide_lt (h q (by simp)) ih
    rw [e]
    exact Nat.lt_of_lt_of_le this (Nat.pow_le_pow_right (by decide) (by rw [List.length_cons, Nat.mul_succ]; omega))
theorem Tame.bot {B : Nat} {ps : Frow} (h : Tame B ps) : ∀ p, p ∈ ps → 0 < p.2 ∧ p.2.natAbs < 2 ^ B ∧ p.1.natAbs < 2 ^ B := fun p hp => by
  obtain ⟨⟨T, h1, h2, h3⟩, h4⟩ := h
  have := Nat.le_of_dvd h1 (h3 p hp)
  exact ⟨(h4 p hp).1, by omega, (h4 p hp).2.1⟩
theorem sumQ_zip {J : Nat → List Int} {j : Nat} : ∀ (ps : List (Int × Int)) (ns : List Nat), sumQ J j (List.zip ps ns) = fsum J j ps ns
  | p :: ps, n :: ns => by
    have ih := sumQ_zip (J := J) (j := j) ps ns
    simp only [List.zip_cons_cons, fsum, sumQ, ih]
  | [], _ => by simp [sumQ, fsum]
  | _ :: _, [] => by simp [sumQ, fsum]
def topsOf (ps : Frow) : List Int := ps.map fun p => p.1 * (botOf ps / p.2)
/-- the sum at a place -/
def makeSum (J : Nat → List Int) (ps : Frow) (ns : List Nat) (j : Nat) : Int := (List.zipWith (fun f n => f * at0 (J n) j) (topsOf ps) ns).sum
theorem make_iff {J : Nat → List Int} {ps : Frow} {ns : List Nat} (hl : ps.length = ns.length) (hp : ∀ p, p ∈ ps → 0 < p.2) (j : Nat) (x : Int) : makeSum J ps ns j = botOf ps * x ↔ fsum J j ps ns = (x : Rat) := by
  have hz : ∀ y, y ∈ List.zip ps ns → y.1 ∈ ps := fun y hy => (List.of_mem_zip hy).1
  have e := sumQ_eq (S := botOf ps) (J := J) (j := j) (List.zip ps ns) fun y hy => ⟨hp _ (hz y hy), dvd_bot (hz y hy)⟩
  rw [sumQ_zip] at e
  have e2 : (List.zipWith (fun f (x : (Int × Int) × Nat) => f * at0 (J x.2) j) ((List.zip ps ns).map fun x => x.1.1 * (botOf ps / x.1.2)) (List.zip ps ns)).sum = makeSum J ps ns j := by
    unfold makeSum topsOf
    generalize botOf ps = S
    clear e hz hp
    induction ps generalizing ns with
    | nil => simp
    | cons p ps ih =>
      cases ns with
      | nil => simp at hl
      | cons n ns =>
        have := ih (ns := ns) (by simpa using hl)
        simp only [List.zip_cons_cons, List.map_cons, List.zipWith_cons_cons, List.sum_cons, this]
  rw [e2] at e
  have s0 : (botOf ps : Rat) ≠ 0 := by
    have := bot_pos hp
    have h : botOf ps ≠ 0 := by omega
    exact_mod_cast h
  constructor
  · intro h
    rw [h, Rat.intCast_mul] at e
    grind
  · intro h
    rw [h] at e
    have e3 : (makeSum J ps ns j : Rat) = ((botOf ps * x : Int) : Rat) := by rw [Rat.intCast_mul, e]
    exact_mod_cast e3
def PointsAt (K : PySem.W.Frag) (H : Hp) (q : Addr) (J : Nat → List Int) (ns : List Nat) : Prop := ∃ xs : List Addr, SqL K H q (xs.map V.ref) ∧ xs.length = ns.length ∧ ∀ (i : Nat) c z, xs[i]? = some c → ns[i]? = some z → SqL K H c ((J z).map V.int)
theorem PointsAt.same {K : PySem.W.Frag} {H H' : Hp} {q : Addr} {J : Nat → List Int} {ns : List Nat} (s : Same H H') (h : PointsAt K H q J ns) : PointsAt K H' q J ns := by
  obtain ⟨xs, h1, h2, h3⟩ := h
  exact ⟨xs, s.seq h1, h2, fun i c z e1 e2 => s.seq (h3 i c z e1 e2)⟩
def spMakes (K : PySem.W.Frag) : Sp := fun vs H Q _ => ∃ (v : V) (q a : Addr) (ps : Frow) (ns : List Nat) (J : Nat → List Int) (W place : Nat), vs = [v, .ref q, .ref a] ∧ Dp K H v (prowD ps) ∧ PointsAt K H q J ns ∧ SqL K H a ((J place).map V.int) ∧ ps.length = ns.length ∧ ns.length ≤ 10 ∧ (∀ z, (J z).length = W) ∧ W ≤ 4 ∧
  (∀ z, z ∈ ns ∨ z = place → ∀ y, y ∈ J z → y.natAbs < 2 ^ 80) ∧ Tame 2000 ps ∧ ∀ b : Bool, (b = true ↔ Hits J W ps ns place) → ∀ H', Same H H' → Q (.bl b) H'
abbrev nmMakes : List Str := ["_law_row_here", "_law_points", "_law_aim", "_law_bottom", "_law_top", "_law_under", "_law_tops", "_law_place", "_law_j"]
theorem scMakes : FnScope ["_law_row_here", "_law_points", "_law_aim", "_law_bottom", "_law_top", "_law_under", "_law_tops", "_law_place", "_law_j"] ["_law_row_here", "_law_points", "_law_aim"] (defScope sMakes) := ⟨rfl, rfl, rfl, by decide +kernel, rfl, by decide +kernel, by decide +kernel⟩
section
variable {P : Program} {w : World} {K : PySem.W.Frag} {mg : Str → Option Value} {base : Heap}
theorem ok_makes {f : Addr} {fd : FuncData} (F : Fun K "_law_makes" "_law_makes" sMakes f fd) (B : BN mg) : FnOk P w K mg base CX0 1 f fd ["_law_row_here", "_law_points", "_law_aim"] (spMakes K) := by
  refine F.ok scMakes (fun vs H Q E h => ?_) (fun cdv A outer s H vs Q E hr h => ?_)
  · obtain ⟨v, q, a, ps, ns, J, W, place, rfl, _⟩ := h
    rfl
  · obtain ⟨v, q, a, ps, ns, J, W, place, rfl, hv, hq, ha, hpl, hnl, hJ, hW4, hJs, hT, k⟩ := h
    have nd := scMakes.nd
    refine ⟨_, pss_cons (ps_set (i := 3) nd rfl (Or.inr rfl) pe_int)
      (pss_cons (ps_for PassesOwn.never rfl (pi_tup (pv 0)) (pg_tup rfl (pgs_cons (pg_name (i := 4) nd rfl (Or.inl rfl)) (pgs_cons (pg_name (i := 5) nd rfl (Or.inl rfl)) pgs_nil)))
        (pss_one (ps_set (i := 3) nd rfl (Or.inr rfl) (pe_op op_mulW (pv 3) (pv 5)))))
      (pss_cons (ps_set (i := 6) nd rfl (Or.inr rfl) (pe_lc (own := [("_law_top", 4), ("_law_under", 5)]) (g := gTup K 2 (gCons (gName 4) (gCons (gName 5) gNil))) (tt := tYes) rfl nd (pi_tup (pv 0)) (blkOk_by (own := [("_law_top", 4), ("_law_under", 5)]) (N := nmMakes) (sc := defScope sMakes) (by decide +kernel))
        (fun _ _ _ _ _ => pg_tup rfl (pgs_cons (pg_name (i := 4) nd rfl (Or.inl rfl) (Or.inr rfl)) (pgs_cons (pg_name (i := 5) nd rfl (Or.inl rfl) (Or.inr rfl)) pgs_nil rfl) rfl) rfl rfl) (fun _ _ _ _ _ => pts_nil)
        (fun _ _ _ _ _ => pe_op op_mulW (pv 4) (pe_op op_fdivE (pv 3) (pv 5)))))
      (pss_cons (ps_for PassesOwn.never rfl (pi_range1 (by rfl) B.range (pa_cons (pe_callB call_len (by rfl) B.len boot_len (pa_cons (pv 2) pa_nil)) pa_nil)) (pg_name (i := 7) nd rfl (Or.inr rfl))
        (pss_one (ps_if (pt_cmpR op_ne (pe_callB (cr_sum rfl) (by rfl) B.sum (by decide +kernel) (pa_cons (pe_lc (own := [("_law_j", 8)]) (g := gName 8) (tt := tYes) rfl nd (pi_range1 (by rfl) B.range (pa_cons (pe_callB call_len (by rfl) B.len boot_len (pa_cons (pv 0) pa_nil)) pa_nil)) (blkOk_by (own := [("_law_j", 8)]) (N := nmMakes) (sc := defScope sMakes) (by decide +kernel))
            (fun _ _ _ _ _ => pg_name (i := 8) nd rfl (Or.inl rfl) (Or.inr rfl)) (fun _ _ _ _ _ => pts_nil)
            (fun _ _ _ _ _ => pe_op op_mulW (pe_ix (ix_seqK (K := K) rfl) (pv 6) (pv 8) (fun _ _ => rfl)) (pe_ix (ix_seqK (K := K) rfl) (pe_ix (ix_seqK (K := K) rfl) (pv 1) (pv 8) (fun _ _ => rfl)) (pv 7) (fun _ _ => rfl)))) pa_nil))
          (pe_op op_mulW (pv 3) (pe_ix ix_list (pv 2) (pv 7) (fun _ _ => rfl))) (nomark _)) (pss_one (ps_ret pe_bl)) pss_nil)))
      (pss_one (ps_ret pe_bl))))), ?_⟩
    obtain ⟨va, xv, rfl, hva, hxv⟩ := dp_tup hv
    have hxl : xv.length = ps.length := by rw [dpAll_len hxv, List.length_map]
    have tb := hT.bot
    have bsm : ∀ i, (botOf (ps.take i)).natAbs < 2 ^ 20001 := fun i => by
      have := bot_small (B := 2000) (by decide) (ps := ps.take i) fun p hp => (tb p (List.mem_of_mem_take hp)).2.1
      refine Nat.lt_of_lt_of_le this (Nat.pow_le_pow_right (by decide) ?_)
      rw [List.length_take]
      have : min i ps.length ≤ 10 := by omega
      omega
    have pairs : ∀ (i : Nat) (x : V), xv[i]? = some x → ∃ (tt : Addr) (p : Int × Int), x = .ref tt ∧ ps[i]? = some p ∧ p ∈ ps ∧ SqT K H tt [.int p.1, .int p.2] := fun i x e => by
      obtain ⟨d, d1, d2⟩ := dpAll_get' hxv e
      rw [List.getElem?_map] at d1
      cases ep : ps[i]? with
      | none => rw [ep] at d1; cases d1
      | some p =>
        rw [ep] at d1
        cases d1
        obtain ⟨tt, xt, rfl, htt, hxt⟩ := dp_tup d2
        obtain rfl : xt = [.int p.1, .int p.2] := by
          cases hxt with
          | cons h1 r => cases r with
            | cons h2 r => cases r with
              | nil => cases h1; cases h2; rfl
        exact ⟨tt, p, rfl, rfl, List.mem_of_getElem? ep, htt⟩
    refine ⟨_, rfl, va, rfl, ⟨_, hva⟩, ?_⟩
    refine for_it (walk_tup (xs := xv)) (fun i σ Hc => Hc = H ∧ ∃ (y4 y5 : Option V), σ = [some (.ref va), some (.ref q), some (.ref a), some (.int (botOf (ps.take i))), y4, y5, none, none, none]) ⟨rfl, none, none, rfl⟩ (fun i σ Hc _ h => by rw [h.1]; exact hva) ?_ ?_
    · rintro i x σ H0 Hc hi ⟨rfl, y4, y5, rfl⟩ ⟨rfl, hx'⟩
      obtain ⟨tt, p, rfl, ep, hpm, htt⟩ := pairs i x hx'
      refine ⟨tt, _, rfl, htt, rfl, _, _, rfl, _, _, rfl, rfl, ?_⟩
      refine ⟨_, rfl, _, rfl, _, _, rfl, rfl, wide_mul (a := 20001) (b := 2000) (bsm i) (tb p hpm).2.1 (by decide) (by decide) (by decide), ?_⟩
      exact ⟨rfl, _, _, by rw [take_snoc' ps i p ep, botOf_snoc]; rfl⟩
    rintro σ Hc ⟨rfl, y4, y5, rfl⟩
    rw [hxl, List.take_length]
    have bsm0 : (botOf ps).natAbs < 2 ^ 20001 := by have := bsm ps.length; rwa [List.take_length] at this
    -- the tops
    refine ⟨_, rfl, va, rfl, ⟨_, hva⟩, fun D nD => ?_⟩
    refine lc_out (walk_tup (xs := xv)) (fun i Hd => Grow Hc D (((topsOf ps).take i).map V.int) Hd) (Grow.start nD) (fun i Hd _ g => same_tup g.s hva) ?_ ?_
    · rintro i x H0 Hd hi g ⟨rfl, hx'⟩
      obtain ⟨tt, p, rfl, ep, hpm, htt⟩ := pairs i x hx'
      have hb := tb p hpm
      have p89 : (2 : Nat) ^ 2000 ≤ 2 ^ 9000 := Nat.pow_le_pow_right (by decide) (by decide)
      have cd : CDivE (botOf ps) p.2 := divE_of (by omega) (by omega) (dvd_bot hpm)
      have hq : (botOf ps / p.2).natAbs < 2 ^ 20001 := by
        obtain ⟨c, hc⟩ := dvd_bot hpm
        have b0 : p.2 ≠ 0 := by omega
        rw [hc, Int.mul_ediv_cancel_left _ b0]
        rw [hc, Int.natAbs_mul] at bsm0
        have : 1 * c.natAbs ≤ p.2.natAbs * c.natAbs := Nat.mul_le_mul_right _ (by omega)
        omega
      refine ⟨tt, _, rfl, same_tup g.s htt, rfl, _, _, rfl, _, _, rfl, rfl, rfl, ?_⟩
      refine ⟨_, rfl, _, rfl, _, rfl, _, _, rfl, rfl, cd, _, _, rfl, rfl, wide_mul (a := 2000) (b := 20001) hb.2.2 hq (by decide) (by decide) (by decide), _, g.d, small1000 (by rw [List.length_map, List.length_take]; simp [topsOf]; omega), ?_⟩
      have := g.step nD (V.int (p.1 * (botOf ps / p.2)))
      rw [take_snoc' (topsOf ps) i _ (by unfold topsOf; rw [List.getElem?_map, ep]; rfl), List.map_append]
      exact this
    intro H1 g
    rw [List.take_of_length_le (by simp [topsOf]; omega)] at g
    have hD := g.d
    have s1 := g.s
    have tsm : ∀ f, f ∈ topsOf ps → f.natAbs < 2 ^ 22001 := fun f hf => by
      obtain ⟨p, hp, rfl⟩ := List.mem_map.1 hf
      have hb := tb p hp
      obtain ⟨c, hc⟩ := dvd_bot hp
      have b0 : p.2 ≠ 0 := by omega
      have hq : (botOf ps / p.2).natAbs < 2 ^ 20001 := by
        rw [hc, Int.mul_ediv_cancel_left _ b0]
        rw [hc, Int.natAbs_mul] at bsm0
        have : 1 * c.natAbs ≤ p.2.natAbs * c.natAbs := Nat.mul_le_mul_right _ (by omega)
        omega
      exact wide_lt hb.2.2 hq
    have htl : (topsOf ps).length = ns.length := by simp [topsOf, hpl]
    dsimp only [gName]
    have ha1 := s1.seq ha
    obtain ⟨qx, hq1, hql, hqx⟩ := hq.same s1
    have hal : ((J place).map V.int).length = W := by rw [List.length_map, hJ]
    refine ⟨_, rfl, _, _, rfl, .inl ⟨_, ha1, rfl⟩, _, rfl, by omega, by rw [hal]; omega, ?_⟩
    rw [hal, show ((W : Int)).toNat = W by omega]
    refine for_it (walk_range (lo := 0) (n := W)) (fun i σ Hx => Same H1 Hx ∧ (∀ j, j < i → makeSum J ps ns j = botOf ps * at0 (J place) j) ∧ ∃ (y7 : Option V), σ = [some (.ref va), some (.ref q), some (.ref a), some (.int (botOf ps)), y4, y5, some (.ref D), y7, none]) ⟨Same.refl _, (fun j hj => absurd hj (Nat.not_lt_zero _)), none, rfl⟩ (fun _ _ _ _ _ => trivial) ?_ ?_
    · rintro i z σ H0 Hx hi ⟨sx, hall, y7, rfl⟩ ⟨rfl, rfl⟩
      have eI : ((0 : Int) + (i : Nat)) = (i : Int) := by omega
      show gName 7 (V.int (0 + (i : Nat))) _ _ _
      rw [eI]
      dsimp only [gName]
      have hvx := same_tup (s1.trans sx) hva
      refine ⟨_, rfl, _, _, rfl, .inr ⟨_, hvx, rfl⟩, _, rfl, by omega, by rw [hxl]; omega, fun D2 nD2 => ?_⟩
      rw [show (((xv.length : Nat) : Int)).toNat = ns.length by omega]
      have hzl : (List.zipWith (fun f n => f * at0 (J n) i) (topsOf ps) ns).length = ns.length := by simp [htl]
      refine lc_out walk_range (fun j Hd => Grow Hx D2 (((List.zipWith (fun f n => f * at0 (J n) i) (topsOf ps) ns).take j).map V.int) Hd) (Grow.start nD2) (fun _ _ _ _ => trivial) ?_ ?_
      · rintro j y H00 Hd hj g2 ⟨rfl, rfl⟩
        have eJ : ((0 : Int) + (j : Nat)) = (j : Int) := by omega
        show gName 8 (V.int (0 + (j : Nat))) _ _ _
        rw [eJ]
        have et : (topsOf ps)[j]? = some ((topsOf ps)[j]'(by omega)) := List.getElem?_eq_getElem (by omega)
        have en : ns[j]? = some ns[j] := List.getElem?_eq_getElem hj
        have eq : qx[j]? = some (qx[j]'(by omega)) := List.getElem?_eq_getElem (by omega)
        have hc := hqx j _ _ eq en
        have sd := sx.trans g2.s
        have hil : i < (J ns[j]).length := by rw [hJ]; exact hi
        have e1 : atI ((topsOf ps).map V.int) (j : Int) = some (V.int ((topsOf ps)[j]'(by omega))) := atI_nat (by rw [List.getElem?_map, et]; rfl)
        have e2 : atI ((J ns[j]).map V.int) (i : Int) = some (V.int (at0 (J ns[j]) i)) := atI_nat (by rw [List.getElem?_map, List.getElem?_eq_getElem hil, L2.Elim.at0_lt hil]; rfl)
        have gz : (List.zipWith (fun f n => f * at0 (J n) i) (topsOf ps) ns)[j]? = some ((topsOf ps)[j]'(by omega) * at0 (J ns[j]) i) := by rw [List.getElem?_zipWith, et, en]
        refine ⟨rfl, _, rfl, _, rfl, SqK.ix (t := false) (SqK.ofL (sd _ _ hD)) e1 ⟨_, rfl, _, rfl, SqK.ix (t := false) (sd.seq hq1) (atI_nat (show (qx.map V.ref)[j]? = _ by rw [List.getElem?_map, eq]; rfl)) ⟨_, rfl, SqK.ix (t := false) (sd.seq hc) e2 ⟨_, _, rfl, rfl, wide_mul (a := 22001) (b := 80) (tsm _ (List.getElem_mem _)) ?_ (by decide) (by decide) (by decide), _, g2.d, small1000 (by simp; omega), ?_⟩⟩⟩⟩
        · rw [L2.Elim.at0_lt hil]
          exact hJs _ (.inl (List.getElem_mem hj)) _ (List.getElem_mem hil)
        · have := g2.step nD2 (V.int ((topsOf ps)[j]'(by omega) * at0 (J ns[j]) i))
          rw [take_snoc' _ j _ gz, List.map_append]
          exact this
      · intro Hd g2
        rw [List.take_of_length_le (by omega)] at g2
        have hip : i < (J place).length := by rw [hJ]; exact hi
        have e3 : atI ((J place).map V.int) (i : Int) = some (V.int (at0 (J place) i)) := atI_nat (by rw [List.getElem?_map, List.getElem?_eq_getElem hip, L2.Elim.at0_lt hip]; rfl)
        refine ⟨D2, _, rfl, SqL.of g2.d, _, rfl, _, rfl, _, rfl, a, _, _, _, rfl, rfl, (sx.trans g2.s).seq ha1, e3, _, _, rfl, rfl, wide_mul (a := 20001) (b := 80) bsm0 ?_ (by decide) (by decide) (by decide), rfl, _, rfl, ?_⟩
        · rw [L2.Elim.at0_lt hip]
          exact hJs _ (.inr rfl) _ (List.getElem_mem hip)
        have key := make_iff (J := J) (ps := ps) (ns := ns) hpl (fun p hp => (tb p hp).1)
        by_cases h0 : makeSum J ps ns i = botOf ps * at0 (J place) i
        · refine iteF' (by show (!decide (V.int (makeSum J ps ns i) = V.int (botOf ps * at0 (J place) i))) = false; rw [h0]; simp) ⟨sx.trans g2.s, fun j hj => ?_, _, rfl⟩
          by_cases hji : j < i
          · exact hall j hji
          · have : j = i := by omega
            rw [this]; exact h0
        · refine iteT' (by show (!decide (V.int (makeSum J ps ns i) = V.int (botOf ps * at0 (J place) i))) = true; rw [decide_eq_false fun e => h0 (by injection e)]; rfl) ?_
          exact k false ⟨(fun z => by cases z), fun hh => absurd ((key i _).2 (hh i hi)) h0⟩ Hd (s1.trans (sx.trans g2.s))
    · rintro σ Hx ⟨sx, hall, y7, rfl⟩
      exact k true ⟨fun _ j hj => (make_iff hpl (fun p hp => (tb p hp).1) j _).1 (hall j hj), fun _ => rfl⟩ Hx (s1.trans sx)
end
end L2.EH
end S_U5
section S_U6
set_option exponentiation.threshold 30000
set_option maxRecDepth 100000
set_option maxHeartbeats 4000000
namespace L2.EH
open PySem PySem.Spec PyProof.Rows StX
open L2.Elim (at0 fv fsum Hits)
/-! ### spans, as the law reads them -/
def getH (p : Fpair) (d : Nat) : Option Frow := if d = 0 then p.1 else p.2
def RowOk (Ls : List LR) (lim : Option Nat) (ns : List Nat) (place : Nat) : Option Frow → Prop
  | none => ∃ l, lim = some l ∧ l ≤ place
  | some ps => Hits (jointAt Ls) (widthOf Ls) ps ns place ∧ ∀ (j : Nat) n q, ns[j]? = some n → ps[j]? = some q → n ≤ place ∨ q.1 = 0
def CellOk (Ls : List LR) (lim : Option Nat) (ns : List Nat) (rs : List Fpair) (i d : Nat) : Prop := ∀ n p, ns[i]? = some n → rs[i]? = some p → RowOk Ls lim ns (2 * n + d) (getH p d)
structure LawSpan (Ls : List LR) (lim : Option Nat) (ns : List Nat) (rs : List Fpair) : Prop where
  cell : ∀ i d, i < ns.length → d < 2 → CellOk Ls lim ns rs i d
  zero : 0 ∈ ns ∨ lim = some 0 ∨ ∀ y, y ∈ jointAt Ls 0 → y = 0
def ltB (lim : Option Nat) (p : Nat) : Bool := match lim with
  | none => true
  | some l => decide (p < l)
def badJ (ns : List Nat) (ps : Frow) (place i : Nat) : List Nat := (List.range i).filter fun j => decide (place < ns.getD j 0) && !decide ((ps.getD j (0, 1)).1 = 0)
theorem badJ_succ (ns : List Nat) (ps : Frow) (place i : Nat) : badJ ns ps place (i + 1) = badJ ns ps place i ++ (if (decide (place < ns.getD i 0) && !decide ((ps.getD i (0, 1)).1 = 0)) = true then [i] else []) := by
  unfold badJ
  rw [List.range_succ, List.filter_append]
  by_cases h : (decide (place < ns.getD i 0) && !decide ((ps.getD i (0, 1)).1 = 0)) = true
  · rw [if_pos h, List.filter_cons, List.filter_nil, if_pos h]
  · rw [if_neg h, List.filter_cons, List.filter_nil, if_neg h]
theorem badJ_nil {ns : List Nat} {ps : Frow} {place : Nat} (hl : ps.length = ns.length) : badJ ns ps place ps.length = [] ↔ ∀ (j : Nat) n q, ns[j]? = some n → ps[j]? = some q → n ≤ place ∨ q.1 = 0 := by
  unfold badJ
  rw [List.filter_eq_nil_iff]
  constructor
  · intro h j n q e1 e2
    have hj := (List.getElem?_eq_some_iff.1 e2).1
    have := h j (List.mem_range.2 hj)
    rw [List.getD_eq_getElem?_getD, e1, List.getD_eq_getElem?_getD, e2] at this
    simp at this
    by_cases hn : n ≤ place
    · exact .inl hn
    · exact .inr (this (by omega))
  · intro h j hj
    have hj2 := List.mem_range.1 hj
    have e1 : ns[j]? = some (ns[j]'(by omega)) := List.getElem?_eq_getElem (by omega)
    have e2 : ps[j]? = some (ps[j]'hj2) := List.getElem?_eq_getElem hj2
    have := h j _ _ e1 e2
    rw [List.getD_eq_getElem?_getD, e1, List.getD_eq_getElem?_getD, e2]
    simp
    intro h1
    rcases this with q | q
    · omega
    · exact q
def spIsSpan (K : PySem.W.Frag) : Sp := fun vs H Q _ => ∃ (l pp : Addr) (v : V) (Ls : List LR) (lim : Option Nat) (ns : List Nat) (rs : List Fpair), vs = [.ref l, .ref pp, v] ∧ LawsAt K H l Ls ∧ Rules5 Ls ∧ Dp K H (.ref pp) (paperD ns rs) ∧ PaperGood ns rs ∧ LimAt v lim ∧
  ∀ b : Bool, (b = true ↔ LawSpan Ls lim ns rs) → ∀ H', Same H H' → Q (.bl b) H'
abbrev nmIsSpan : List Str := ["_law_rules", "_law_paper_here", "_law_limit", "_law_numbers", "_law_pairs", "_law_points", "_law_spot", "_law_digit", "_law_later", "_law_row_here", "_law_at_here", "_law_j"]
theorem scIsSpan : FnScope ["_law_rules", "_law_paper_here", "_law_limit", "_law_numbers", "_law_pairs", "_law_points", "_law_spot", "_law_digit", "_law_later", "_law_row_here", "_law_at_here", "_law_j"] ["_law_rules", "_law_paper_here", "_law_limit"] (defScope sIsSpan) := ⟨rfl, rfl, rfl, by decide +kernel, rfl, by decide +kernel, by decide +kernel⟩
section
variable {P : Program} {w : World} {K : PySem.W.Frag} {mg : Str → Option Value} {base : Heap}
theorem ok_isSpan {f fJ fM : Addr} {fd fdJ fdM : FuncData} (F : Fun K "_law_is_span" "_law_is_span" sIsSpan f fd) (B : BN mg) (FJ : Fn' P w K mg base 3 "_law_joint" fJ fdJ ["_law_rules", "_law_at_here"] (spJoint K))
    (FM : Fn' P w K mg base 1 "_law_makes" fM fdM ["_law_row_here", "_law_points", "_law_aim"] (spMakes K)) :
    FnOk P w K mg base CX0 4 f fd ["_law_rules", "_law_paper_here", "_law_limit"] (spIsSpan K) := by
  refine F.ok scIsSpan (fun vs H Q E h => ?_) (fun cdv A outer s H vs Q E hr h => ?_)
  · obtain ⟨l, pp, v, Ls, lim, ns, rs, rfl, _⟩ := h
    rfl
  · obtain ⟨l, pp, v, Ls, lim, ns, rs, rfl, hLs, hR5, hpap, hG, hlim, k⟩ := h
    have hu64 := hr.units
    have nd := scIsSpan.nd
    refine ⟨_, (pss_cons (ps_asg (pv 1) (pg_tup rfl (pgs_cons (pg_name (i := 3) nd rfl (Or.inr rfl)) (pgs_cons (pg_name (i := 4) nd rfl (Or.inl rfl)) pgs_nil))))
      (pss_cons (ps_setLc (i := 5) (own := [("_law_at_here", 10)]) (g := gName 10) (tt := tYes) (by rfl) nd rfl rfl (sw_true rfl rfl rfl (by decide +kernel)) (pi_tup (pv 3)) (blkOk_by (own := [("_law_at_here", 10)]) (N := nmIsSpan) (sc := (defScope sIsSpan)) (by decide +kernel))
        (fun _ _ _ _ _ => pg_name (i := 10) nd rfl (Or.inl rfl) (Or.inr rfl)) (fun _ _ _ _ _ => pts_nil)
        (fun _ _ _ _ _ => (pe_call FJ.ok (by exact hr) (by rfl) FJ.m FJ.k FJ.b .nil pass0 (pa_cons (pv 0) (pa_cons (pv 10) pa_nil)))))
      (pss_cons (ps_for PassesOwn.never rfl (pi_range1 (by rfl) B.range (pa_cons (pe_callB call_len (by rfl) B.len boot_len (pa_cons (pv 3) pa_nil)) pa_nil)) (pg_name (i := 6) nd rfl (Or.inl rfl)) (pss_one (ps_for PassesOwn.never rfl (pi_range1 (by rfl) B.range (pa_cons pe_int pa_nil)) (pg_name (i := 7) nd rfl (Or.inl rfl)) (pss_cons (ps_asg (pe_tup (pa_cons (pe_op op_add (pe_op op_mul pe_int (pe_ix ix_tup (pv 3) (pv 6) (fun _ _ => rfl))) (pv 7)) (pa_cons (pe_ix ix_tup (pe_ix ix_tup (pv 4) (pv 6) (fun _ _ => rfl)) (pv 7) (fun _ _ => rfl)) pa_nil))) (pg_tup rfl (pgs_cons (pg_name (i := 8) nd rfl (Or.inr rfl)) (pgs_cons (pg_name (i := 9) nd rfl (Or.inr rfl)) pgs_nil))))
      (pss_one (ps_if (pt_cmpR op_isN (pv 9) pe_non (by rfl)) (pss_one (ps_if (PW.pt (pw_or (pt_cmpR op_isN (pv 2) pe_non (by rfl)) (pw_or1 (pt_cmpR op_lt (pv 8) (pv 2) (nomark _))))) (pss_one (ps_ret pe_bl)) pss_nil)) (pss_one (ps_if (pt_not (pt_val (pe_call FM.ok (by exact hr.mono (by decide)) (by rfl) FM.m FM.k FM.b .nil pass0 (pa_cons (pv 9) (pa_cons (pv 5) (pa_cons (pe_call FJ.ok (by exact hr) (by rfl) FJ.m FJ.k FJ.b .nil pass0 (pa_cons (pv 0) (pa_cons (pv 8) pa_nil))) pa_nil)))))) (pss_one (ps_ret pe_bl)) (pss_one (ps_if (pt_cmpR (show OpR _ (compareOp .NotEq) (rNeD K) from op_neD (by exact hr.units)) (pe_lc (own := [("_law_j", 11)]) (g := gName 11) rfl nd (pi_range1 (by rfl) B.range (pa_cons (pe_callB call_len (by rfl) B.len boot_len (pa_cons (pv 9) pa_nil)) pa_nil)) (blkOk_by (own := [("_law_j", 11)]) (N := nmIsSpan) (sc := (defScope sIsSpan)) (by decide +kernel))
        (fun _ _ _ _ _ => pg_name (i := 11) nd rfl (Or.inl rfl) (Or.inr rfl)) (fun _ _ _ _ _ => pts_one (PW.pt (pw_and (pt_cmpR op_gt (pe_ix (ix_seqK (K := K) rfl) (pv 3) (pv 11) (fun _ _ => rfl)) (pv 8) (nomark _)) (pw_and1 (pt_cmpR op_ne (pe_ix (ix_seqK (K := K) rfl) (pe_ix (ix_seqK (K := K) rfl) (pv 9) (pv 11) (fun _ _ => rfl)) pe_int (fun _ _ => rfl)) pe_int (nomark _))))))
        (fun _ _ _ _ _ => (pv 11))) (pe_lst pa_nil) (by rfl)) (pss_one (ps_ret pe_bl)) pss_nil))))))))))
      (pss_one (ps_ret (pe_or (pe_cmpR (op_inK (K := K) rfl) pe_int (pv 3) (by rfl)) (pe_or (pe_cmpR op_eq (pv 2) pe_int (nomark _)) (pe_one (pe_cmpR (op_eqD hr.units) (pe_call FJ.ok (by exact hr) (by rfl) FJ.m FJ.k FJ.b .nil pass0 (pa_cons (pv 0) (pa_cons pe_int pa_nil))) (pe_op op_rep (pe_lst (pa_cons pe_int pa_nil)) (pe_callB call_len (by rfl) B.len boot_len (pa_cons (pe_call FJ.ok (by exact hr) (by rfl) FJ.m FJ.k FJ.b .nil pass0 (pa_cons (pv 0) (pa_cons pe_int pa_nil))) pa_nil))) (by rfl)))))))))), ?_⟩
    have z2 : 2 ≤ sizeLine := by decide
    have hlr := hR5.ok
    have hW := hR5.w4
    have hJl : ∀ z, (jointAt Ls z).length = widthOf Ls := joint_len hlr
    have hJs : ∀ z, z < 20 → ∀ y, y ∈ jointAt Ls z → y.natAbs < 2 ^ 80 := fun z hz y hy => Rules5.small hR5.lr (show z < 2 ^ 5 by omega) y hy
    have hJi : ∀ z i, (jointAt (Ls.take i) z).length ≤ 900 := fun z i => by
      have := jointAt_part Ls i z
      rw [hJl] at this; omega
    have z1100 : ∀ z, z < 20 → z < 2 ^ 1100 := fun z hz => Nat.lt_of_lt_of_le (show z < 2 ^ 5 by omega) (Nat.pow_le_pow_right (by decide) (by decide))
    obtain ⟨_, xp, ec, hpp, hxp⟩ := dp_tup hpap
    cases ec
    obtain ⟨vn, vr, rfl, dn, dpr⟩ : ∃ v1 v2, xp = [v1, v2] ∧ Dp K H v1 (rowD (natsI ns)) ∧ Dp K H v2 (.tuple (rs.map dupD)) := by
      cases hxp with
      | cons h1 r => cases r with
        | cons h2 r => cases r with
          | nil => exact ⟨_, _, rfl, h1, h2⟩
    obtain ⟨cn, rfl, hcn⟩ := dp_row dn
    rw [natsV_I] at hcn
    obtain ⟨cp, xr, rfl, hcp, hxr⟩ := dp_tup dpr
    have hxrl : xr.length = rs.length := by rw [dpAll_len hxr, List.length_map]
    have hrl := hG.len
    have hnl := hG.few
    refine ⟨_, rfl, pp, _, rfl, hpp, rfl, _, _, rfl, _, _, rfl, rfl, ?_⟩
    -- the points
    refine ⟨_, rfl, cn, rfl, ⟨_, hcn⟩, fun D nD => ?_⟩
    refine lc_out (walk_tup (xs := natsV ns)) (fun i Hd => ∃ xs : List Addr, Grow H D (xs.map V.ref) Hd ∧ xs.length = i ∧ ∀ (j : Nat) c z, xs[j]? = some c → ns[j]? = some z → c ≠ D ∧ Hd c = some (.lst ((jointAt Ls z).map V.int))) ⟨[], Grow.start nD, rfl, fun j c z e => by simp at e⟩ (fun i Hd _ ⟨_, g, _⟩ => same_tup g.s hcn) ?_ ?_
    · rintro i x H0 Hd hi ⟨xs, g, hxl, hxs⟩ ⟨rfl, hx'⟩
      rw [natsV_len] at hi
      have ez : ns[i]? = some ns[i] := List.getElem?_eq_getElem hi
      rw [show (natsV ns)[i]? = some (V.int (ns[i] : Int)) by unfold natsV; rw [List.getElem?_map, ez]; rfl] at hx'
      cases hx'
      have hz := hG.lt _ (List.getElem_mem hi)
      refine ⟨rfl, _, rfl, _, rfl, l, Ls, ns[i], rfl, hLs.same g.s, hlr, z1100 _ (by omega), hJi _, fun H5 q s5 nq hq => ?_⟩
      have g5 := g.same s5
      have qD : q ≠ D := fun e => by rw [e, g.d] at nq; cases nq
      refine ⟨_, g5.d, small1000 (by rw [List.length_map]; omega), xs ++ [q], by have := g5.step nD (V.ref q); rw [List.map_append]; exact this, by simp [hxl], fun j c z e1 e2 => ?_⟩
      by_cases hj : j < xs.length
      · rw [List.getElem?_append_left hj] at e1
        obtain ⟨q1, q2⟩ := hxs j c z e1 e2
        exact ⟨q1, by rw [upd_ne q1]; exact s5 _ _ q2⟩
      · have hj2 : j = i := by
          have := (List.getElem?_eq_some_iff.1 e1).1
          simp at this; omega
        subst hj2
        rw [List.getElem?_append_right (by omega), hxl, Nat.sub_self] at e1
        cases e1
        rw [ez] at e2
        cases e2
        exact ⟨qD, by rw [upd_ne qD]; exact hq⟩
    rintro H1 ⟨xs, g, hxl, hxs⟩
    rw [natsV_len] at hxl
    have hPts : PointsAt K H1 D (jointAt Ls) ns := ⟨xs, SqL.of g.d, hxl, fun j c z e1 e2 => SqL.of (hxs j c z e1 e2).2⟩
    have s1 := g.s
    clear hxs g
    have hcn1 := same_tup s1 hcn
    dsimp only [gName]
    refine ⟨_, rfl, _, _, rfl, .inr ⟨_, hcn1, rfl⟩, _, rfl, by omega, by rw [natsV_len]; omega, ?_⟩
    rw [natsV_len, show (((ns.length : Nat) : Int)).toNat = ns.length by omega]
    refine for_it (walk_range (lo := 0) (n := ns.length)) (fun i σ Hc => Same H1 Hc ∧ (∀ i' d, i' < i → d < 2 → CellOk Ls lim ns rs i' d) ∧ ∃ (y6 y7 y8 y9 : Option V), σ = [some (.ref l), some (.ref pp), some v, some (.ref cn), some (.ref cp), some (.ref D), y6, y7, y8, y9, none, none]) ⟨Same.refl _, (fun i' d h => absurd h (Nat.not_lt_zero _)), none, none, none, none, rfl⟩ (fun _ _ _ _ _ => trivial) ?_ ?_
    · rintro i z σ H0 Hc hi ⟨sc, hall, y6, y7, y8, y9, rfl⟩ ⟨rfl, rfl⟩
      have eI : ((0 : Int) + (i : Nat)) = (i : Int) := by omega
      show gName 6 (V.int (0 + (i : Nat))) _ _ _
      rw [eI]
      dsimp only [gName]
      have ez : ns[i]? = some ns[i] := List.getElem?_eq_getElem hi
      have er : rs[i]? = some (rs[i]'(by omega)) := List.getElem?_eq_getElem (by omega)
      have hz10 := hG.lt _ (List.getElem_mem hi)
      have hrow := hG.row _ (List.getElem_mem (show i < rs.length by omega))
      have atn : atI (natsV ns) (i : Int) = some (V.int (ns[i] : Int)) := atI_nat (by unfold natsV; rw [List.getElem?_map, ez]; rfl)
      have exr : xr[i]? = some (xr[i]'(by omega)) := List.getElem?_eq_getElem (by omega)
      obtain ⟨dx, w1, w2⟩ := dpAll_get' hxr exr
      rw [List.getElem?_map, er] at w1
      cases w1
      obtain ⟨ct, xt, ect, hct, hxt⟩ := dp_tup w2
      have atp : atI xr (i : Int) = some (.ref ct) := by rw [← ect]; exact atI_nat exr
      obtain ⟨va, vb, rfl, da, db⟩ : ∃ v1 v2, xt = [v1, v2] ∧ Dp K H v1 (optD (rs[i]'(by omega)).1) ∧ Dp K H v2 (optD (rs[i]'(by omega)).2) := by
        cases hxt with
        | cons h1 r => cases r with
          | cons h2 r => cases r with
            | nil => exact ⟨_, _, rfl, h1, h2⟩
      generalize hn : ns[i] = n at *
      generalize (rs[i]'(by omega)) = pr at *
      refine ⟨(2 : Int), rfl, by decide, by decide, ?_⟩
      refine for_it (walk_range (lo := 0) (n := 2)) (fun d σ Hx => Same H1 Hx ∧ (∀ d', d' < d → CellOk Ls lim ns rs i d') ∧ ∃ (y7 y8 y9 : Option V), σ = [some (.ref l), some (.ref pp), some v, some (.ref cn), some (.ref cp), some (.ref D), some (.int (i : Int)), y7, y8, y9, none, none]) ⟨sc, (fun d' h => absurd h (Nat.not_lt_zero _)), y7, y8, y9, rfl⟩ (fun _ _ _ _ _ => trivial) ?_ ?_
      · rintro d z σ H00 Hx hd ⟨sx, hd', y7', y8', y9', rfl⟩ ⟨rfl, rfl⟩
        have eD : ((0 : Int) + (d : Nat)) = (d : Int) := by omega
        show gName 7 (V.int (0 + (d : Nat))) _ _ _
        rw [eD]
        dsimp only [gName]
        have s0x := s1.trans sx
        obtain ⟨w, atw, dw⟩ : ∃ w, atI [va, vb] (d : Int) = some w ∧ Dp K H w (optD (getH pr d)) := by
          match d, hd with
          | 0, _ => exact ⟨va, rfl, da⟩
          | 1, _ => exact ⟨vb, rfl, db⟩
        have hgood : RowGood ns.length (getH pr d) := by
          unfold getH
          split
          · exact hrow.1
          · exact hrow.2
        refine ⟨_, rfl, _, rfl, cn, _, _, _, rfl, rfl, same_tup s0x hcn, atn, _, _, rfl, rfl, .inl ⟨by decide, by decide⟩, _, rfl, _, _, rfl, rfl, _, rfl, _, rfl, cp, _, _, _, rfl, rfl, same_tup s0x hcp, atp, _, rfl, ct, _, _, _, rfl, rfl, same_tup s0x hct, atw, z2, fun t nt => ?_⟩
        dsimp only
        rw [show (2 * (n : Int) + (d : Int)) = ((2 * n + d : Nat) : Int) by omega]
        have st := same_new (o := .tup [V.int ((2 * n + d : Nat) : Int), w]) nt
        refine ⟨t, _, rfl, SqT.of upd_same, rfl, _, _, rfl, _, _, rfl, rfl, ?_⟩
        have s1t := sx.trans st
        have s0t := s1.trans s1t
        generalize (L2.upd Hx t (.tup [V.int ((2 * n + d : Nat) : Int), w])) = Ht at *
        have hpl20 : 2 * n + d < 20 := by omega
        have next : ∀ Hy, Same H1 Hy → RowOk Ls lim ns (2 * n + d) (getH pr d) → Same H1 Hy ∧ (∀ d', d' < d + 1 → CellOk Ls lim ns rs i d') := fun Hy sy hok => ⟨sy, fun e he => by
          by_cases h : e < d
          · exact hd' e h
          · have : e = d := by omega
            subst this
            intro n' p' e1 e2
            rw [ez] at e1
            rw [er] at e2
            cases e1; cases e2
            exact hok⟩
        have stop : ∀ Hy, Same H Hy → ¬ RowOk Ls lim ns (2 * n + d) (getH pr d) → Q (.bl false) Hy := fun Hy sy hno => k false ⟨(fun z => by cases z), fun hs => absurd (hs.cell i d hi hd n pr ez er) hno⟩ Hy sy
        refine ⟨_, rfl, rfl, _, rfl, ?_⟩
        cases ho : getH pr d with
        | none =>
          rw [ho] at dw next stop
          have : w = .non := by cases dw; rfl
          subst this
          refine iteT' (by rfl) ?_
          refine ifs_or (b0 := lim.isNone) (b := ltB lim (2 * n + d)) (fun Q q => ⟨_, rfl, rfl, _, rfl, by rw [hlim.non]; exact q⟩) (fun h0 Q q => ?_) (fun h => ?_) (fun hb => ?_) fun hb => ?_
          · cases hlm : lim with
            | none => rw [hlm] at h0; cases h0
            | some l0 =>
              rw [hlm] at hlim q
              have hv : v = .int (l0 : Int) := hlim
              subst hv
              refine ⟨_, rfl, _, rfl, _, _, rfl, rfl, _, rfl, ?_⟩
              have ed : decide (((2 * n + d : Nat) : Int) < (l0 : Int)) = decide (2 * n + d < l0) := decide_eq_decide.2 (by omega)
              rw [ed]
              exact q
          · cases hlm : lim with
            | none => rfl
            | some l0 => rw [hlm] at h; cases h
          · refine stop Ht s0t ?_
            rintro ⟨l0, e, hle⟩
            rw [e] at hb
            have := of_decide_eq_true (show decide (2 * n + d < l0) = true from hb)
            omega
          · dsimp only [tNext]
            have := next Ht s1t (by
              cases hlm : lim with
              | none => rw [hlm] at hb; cases hb
              | some l0 =>
                rw [hlm] at hb
                have := of_decide_eq_false (show decide (2 * n + d < l0) = false from hb)
                exact ⟨l0, rfl, by omega⟩)
            exact ⟨this.1, this.2, _, _, _, rfl⟩
        | some ps =>
          rw [ho] at dw next stop
          obtain ⟨hpsl, hTm⟩ := hgood ps ho
          obtain ⟨wa, xw, rfl, hwa, hxw⟩ := dp_tup (show Dp K H w (prowD ps) from dw)
          have hxwl : xw.length = ps.length := by rw [dpAll_len hxw, List.length_map]
          refine iteF' (by rfl) ?_
          refine ⟨_, rfl, _, rfl, _, rfl, _, rfl, l, Ls, 2 * n + d, rfl, hLs.same s0t, hlr, z1100 _ hpl20, hJi _, fun H5 q s5 nq hq => ?_⟩
          refine ⟨.ref wa, D, q, ps, ns, jointAt Ls, widthOf Ls, 2 * n + d, rfl, dp_same (s0t.trans s5) dw, hPts.same (s1t.trans s5), SqL.of hq, hpsl, hnl, hJl, hW, fun y hy => ?_, hTm, fun b hb H6 s6 => ⟨_, rfl, ?_⟩⟩
          · rcases hy with e | e
            · exact hJs y (by have := hG.lt y e; omega)
            · exact hJs y (by omega)
          have s16 := s1t.trans (s5.trans s6)
          have s06 := s1.trans s16
          cases b with
          | false =>
            refine iteT' rfl ?_
            exact stop H6 s06 fun hok => by have := hb.2 hok.1; cases this
          | true =>
            have hhit := hb.1 rfl
            refine iteF' rfl ?_
            refine ⟨_, rfl, _, _, rfl, .inr ⟨_, same_tup s06 hwa, rfl⟩, _, rfl, by omega, by omega, fun D7 nD7 => ?_⟩
            rw [show (((xw.length : Nat) : Int)).toNat = ps.length by omega]
            refine lc_out walk_range (fun j Hd => Grow H6 D7 (natsV (badJ ns ps (2 * n + d) j)) Hd) (Grow.start nD7) (fun _ _ _ _ => trivial) ?_ ?_
            · rintro j y H00' Hd7 hj g7 ⟨rfl, rfl⟩
              have eJ : ((0 : Int) + (j : Nat)) = (j : Int) := by omega
              show gName 11 (V.int (0 + (j : Nat))) _ _ _
              rw [eJ]
              have en : ns[j]? = some (ns[j]'(by omega)) := List.getElem?_eq_getElem (by omega)
              have ep : ps[j]? = some ps[j] := List.getElem?_eq_getElem hj
              have atn' : atI (natsV ns) (j : Int) = some (V.int ((ns[j]'(by omega) : Nat) : Int)) := atI_nat (by unfold natsV; rw [List.getElem?_map, en]; rfl)
              have exw : xw[j]? = some (xw[j]'(by omega)) := List.getElem?_eq_getElem (by omega)
              obtain ⟨dx', f1, f2⟩ := dpAll_get' hxw exw
              rw [List.getElem?_map, ep] at f1
              cases f1
              obtain ⟨cq, xq, ecq, hcq, hxq⟩ := dp_tup f2
              obtain rfl : xq = [.int ps[j].1, .int ps[j].2] := by
                cases hxq with
                | cons h1 r => cases r with
                  | cons h2 r => cases r with
                    | nil => cases h1; cases h2; rfl
              have atw' : atI xw (j : Int) = some (.ref cq) := by rw [← ecq]; exact atI_nat exw
              have s07 := s06.trans g7.s
              have e1 : ns.getD j 0 = ns[j]'(by omega) := by rw [List.getD_eq_getElem?_getD, en]; rfl
              have e2 : ps.getD j (0, 1) = ps[j] := by rw [List.getD_eq_getElem?_getD, ep]; rfl
              have hsucc := badJ_succ ns ps (2 * n + d) j
              rw [e1, e2] at hsucc
              refine ⟨rfl, ?_⟩
              unfold tAnd
              refine ⟨_, rfl, _, rfl, SqK.ix (t := true) (same_tup s07 hcn) atn' ⟨_, rfl, _, _, rfl, rfl, _, rfl, ?_⟩⟩
              by_cases hgt : 2 * n + d < ns[j]'(by omega)
              · refine iteT' (decide_eq_true (by omega)) ?_
                refine ⟨_, rfl, _, rfl, SqK.ix (t := true) (same_tup s07 hwa) atw' (SqK.ix (t := true) (same_tup s07 hcq) (show atI [V.int ps[j].1, V.int ps[j].2] 0 = some (V.int ps[j].1) from rfl) ⟨rfl, _, rfl, ?_⟩)⟩
                by_cases h0 : ps[j].1 = 0
                · refine iteF' (by rw [h0]; rfl) ?_
                  rw [hsucc, if_neg (by simp [h0]), List.append_nil]
                  exact g7
                · refine iteT' (by rw [int_dec, decide_eq_false h0]; rfl) ⟨_, rfl, _, g7.d, small1000 ?_, ?_⟩
                  · rw [natsV_len]
                    unfold badJ
                    have := List.length_filter_le (fun j => decide (2 * n + d < ns.getD j 0) && !decide ((ps.getD j (0, 1)).1 = 0)) (List.range j)
                    rw [List.length_range] at this
                    omega
                  · rw [hsucc, if_pos (by simp [h0, hgt]), natsV_app]
                    exact g7.step nD7 (V.int (j : Int))
              · refine iteF' (decide_eq_false (by omega)) (iteF' rfl ?_)
                rw [hsucc, if_neg (by simp [hgt]), List.append_nil]
                exact g7
            · intro H7 g7
              refine ⟨by show 0 ≤ sizeLine; decide, fun e ne => ?_⟩
              have se := same_new (o := .lst []) ne
              have hnd : SqL K (L2.upd H7 e (.lst [])) D7 ((natsI (badJ ns ps (2 * n + d) ps.length)).map V.int) := by rw [natsV_I]; exact SqL.of (se _ _ g7.d)
              refine ⟨_, _, .lst hnd (ints_dp _), .lst (SqL.of upd_same) (ints_dp []), shaped_ints _, shaped_ints [], ?_⟩
              rw [eqv_list]
              have s17 := s16.trans (g7.s.trans se)
              by_cases hbad : badJ ns ps (2 * n + d) ps.length = []
              · refine ⟨_, rfl, iteF' (by rw [hbad]; rfl) ?_⟩
                dsimp only [tNext]
                have := next _ s17 ⟨hhit, (badJ_nil hpsl).1 hbad⟩
                exact ⟨this.1, this.2, _, _, _, rfl⟩
              · have hne : natsI (badJ ns ps (2 * n + d) ps.length) ≠ [] := fun e => hbad (natsI_inj (b := []) e)
                refine ⟨_, rfl, iteT' (by rw [decide_eq_false hne]; rfl) ?_⟩
                exact stop _ (s1.trans s17) fun hok => hbad ((badJ_nil hpsl).2 hok.2)
      · rintro σ Hx ⟨sx, hd', y7', y8', y9', rfl⟩
        refine ⟨sx, fun i' d h1 h2 => ?_, _, _, _, _, rfl⟩
        by_cases h : i' < i
        · exact hall i' d h h2
        · have : i' = i := by omega
          subst this
          exact hd' d h2
    · rintro σ Hc ⟨sc, hall, y6, y7, y8, y9, rfl⟩
      have s0c := s1.trans sc
      refine ⟨_, rfl, cn, _, rfl, .inr (same_tup s0c hcn), rfl, flat_nats ns, ?_⟩
      rw [if_neg (by decide), show inV (V.int 0) (natsV ns) = decide (0 ∈ ns) from inV_nats 0 ns]
      refine ⟨_, rfl, ?_⟩
      have mk : ∀ {Z : Prop}, (LawSpan Ls lim ns rs ↔ Z) → ∀ b : Bool, (b = true ↔ Z) → (b = true ↔ LawSpan Ls lim ns rs) := fun h1 b h2 => h2.trans h1.symm
      have hiff : LawSpan Ls lim ns rs ↔ (0 ∈ ns ∨ lim = some 0 ∨ ∀ y, y ∈ jointAt Ls 0 → y = 0) := ⟨fun h => h.zero, fun h => ⟨fun i d h1 h2 => hall i d h1 h2, h⟩⟩
      by_cases h0 : 0 ∈ ns
      · exact iteT' (decide_eq_true h0) (k true (mk hiff true ⟨fun _ => .inl h0, fun _ => rfl⟩) Hc s0c)
      refine iteF' (decide_eq_false h0) ?_
      have hsc : scal v (.int 0) = true ∧ decide (v = .int 0) = decide (lim = some 0) := by
        cases hlm : lim with
        | none =>
          rw [hlm] at hlim
          have hv : v = .non := hlim
          subst hv
          exact ⟨rfl, by simp⟩
        | some l0 =>
          rw [hlm] at hlim
          have hv : v = .int (l0 : Int) := hlim
          subst hv
          refine ⟨rfl, decide_eq_decide.2 ⟨fun e => ?_, fun e => ?_⟩⟩
          · injection e with e
            rw [show l0 = 0 by omega]
          · injection e with e
            rw [e]; rfl
      refine ⟨_, rfl, hsc.1, _, rfl, ?_⟩
      rw [hsc.2]
      by_cases hl0 : lim = some 0
      · exact iteT' (decide_eq_true hl0) (k true (mk hiff true ⟨fun _ => .inr (.inl hl0), fun _ => rfl⟩) Hc s0c)
      refine iteF' (decide_eq_false hl0) ?_
      refine ⟨_, rfl, l, Ls, 0, rfl, hLs.same s0c, hlr, z1100 0 (by decide), hJi 0, fun H5 q s5 nq hq => ?_⟩
      refine ⟨by show 1 ≤ sizeLine; decide, fun l1 n1 => ?_⟩
      have sl1 := same_new (o := .lst [V.int 0]) n1
      refine ⟨_, rfl, l, Ls, 0, rfl, hLs.same (s0c.trans (s5.trans sl1)), hlr, z1100 0 (by decide), hJi 0, fun H6 q6 s6 nq6 hq6 => ?_⟩
      have hJ0 : ((jointAt Ls 0).map V.int).length = widthOf Ls := by rw [List.length_map, hJl]
      refine ⟨_, _, rfl, .inl ⟨_, SqL.of hq6, rfl⟩, ?_⟩
      rw [hJ0]
      have hWb : widthOf Ls ≤ 4 := hW
      refine ⟨l1, (widthOf Ls : Int), _, rfl, rfl, s6 _ _ upd_same, by omega, by omega, ?_, fun r nr => ?_⟩
      · show 1 * ((widthOf Ls : Int)).toNat ≤ sizeLine
        have : (4 : Nat) ≤ sizeLine := by decide
        omega
      have sr := same_new (o := .lst (List.replicate ((widthOf Ls : Int)).toNat [V.int 0]).flatten) nr
      have hr0 : (L2.upd H6 r (.lst (List.replicate ((widthOf Ls : Int)).toNat [V.int 0]).flatten)) r = some (.lst ((List.replicate (widthOf Ls) (0 : Int)).map V.int)) := by
        rw [upd_same, flat_rep, List.map_replicate, show ((widthOf Ls : Int)).toNat = widthOf Ls by omega]
      have s5r := sl1.trans (s6.trans sr)
      refine ⟨_, _, .lst (xs := (jointAt Ls 0).map V.int) (SqL.of (s5r _ _ hq)) (ints_dp _), .lst (SqL.of hr0) (ints_dp _), shaped_ints _, shaped_ints _, ?_⟩
      rw [eqv_list]
      refine k _ ?_ _ (s0c.trans (s5.trans s5r))
      refine mk hiff _ ⟨fun h => .inr (.inr fun y hy => ?_), fun h => ?_⟩
      · have e := of_decide_eq_true h
        rw [e] at hy
        exact (List.mem_replicate.1 hy).2
      · rcases h with h | h | h
        · exact absurd h h0
        · exact absurd h hl0
        · refine decide_eq_true ?_
          rw [← hJl 0]
          exact List.eq_replicate_iff.2 ⟨rfl, h⟩
end
end L2.EH
end S_U6
section S_X1
set_option exponentiation.threshold 30000
set_option maxRecDepth 100000
set_option maxHeartbeats 4000000
namespace L2.EH
open PySem PySem.Spec PyProof.Rows StX
open L2.Elim (at0 fv fsum Hits vec)
open L2.Halves (Span Vec)
/-! ### the law's spans are the checker's -/
def eoOf (lim : Option Nat) : Option Int := lim.map fun (l : Nat) => (l : Int)
theorem spanOk_iffE {Ls : List LR} (h : LRok Ls) {eo : Option Int} {zs : List Nat} {rs : List Fpair} (hc : CertFact eo zs rs) : SpanOk eo (Ls.map plainOf) zs rs ↔ (zs.take 1 = [0] ∨ eo = some 0 ∨ ∀ L, L ∈ Ls → ∀ z, z ∈ L.heads → z = 0) ∧ rowsHit Ls zs rs := by
  have key : ∀ {ps : Frow} {place : Nat} {eo : Option Int} {pl : Int}, RowFact (natsI zs) pl eo (some ps) → ((∀ L, L ∈ Ls → RightB ps zs (JR (plainOf L)) place (plainOf L).firsts.length) ↔ Hits (jointAt Ls) (widthOf Ls) ps zs place) := fun {ps place eo pl} hr => by
    rw [← hits_joint h]
    refine ⟨fun q L hL => ?_, fun q L hL => ?_⟩
    · have := (right_iff (rowPos hr)).1 (q L hL)
      rw [JR_plain] at this
      exact this
    · refine (right_iff (rowPos hr)).2 ?_
      rw [JR_plain]
      exact q L hL
  constructor
  · intro hs
    refine ⟨?_, fun i n p e1 e2 => ?_⟩
    · rcases hs.zero with q | q | q
      · exact .inl q
      · exact .inr (.inl q)
      · exact .inr (.inr fun L hL => q (plainOf L) (List.mem_map.2 ⟨L, hL, rfl⟩))
    · have hr := hc.row i n p e1 e2
      refine ⟨fun ps e => ?_, fun ps e => ?_⟩
      · have h1 := hr.1
        rw [e] at h1
        exact (key h1).1 fun L hL => (hs.row i n p e1 e2 (plainOf L) (List.mem_map.2 ⟨L, hL, rfl⟩)).1 ps e
      · have h1 := hr.2
        rw [e] at h1
        exact (key h1).1 fun L hL => (hs.row i n p e1 e2 (plainOf L) (List.mem_map.2 ⟨L, hL, rfl⟩)).2 ps e
  · rintro ⟨h0, hh⟩
    refine ⟨?_, fun i n p e1 e2 R hR => ?_⟩
    · rcases h0 with q | q | q
      · exact .inl q
      · exact .inr (.inl q)
      · refine .inr (.inr fun R hR => ?_)
        obtain ⟨L, hL, rfl⟩ := List.mem_map.1 hR
        exact q L hL
    · obtain ⟨L, hL, rfl⟩ := List.mem_map.1 hR
      have hr := hc.row i n p e1 e2
      obtain ⟨t1, t2⟩ := hh i n p e1 e2
      refine ⟨fun ps e => ?_, fun ps e => ?_⟩
      · have h1 := hr.1
        rw [e] at h1
        exact (key h1).2 (t1 ps e) L hL
      · have h1 := hr.2
        rw [e] at h1
        exact (key h1).2 (t2 ps e) L hL
theorem frac_nil {q : Int × Int} (h : fracOk q = true) (h0 : q.1 = 0) : q = (0, 1) := by
  obtain ⟨t, b⟩ := q
  have h0 : t = 0 := h0
  subst h0
  unfold fracOk at h
  rw [Bool.and_eq_true] at h
  have h1 := of_decide_eq_true h.1
  have h2 := of_decide_eq_true h.2
  have h1 : 1 ≤ b := h1
  have h2 : Int.gcd 0 b = 1 := h2
  rw [Int.gcd_zero_left] at h2
  have : b = 1 := by omega
  rw [this]
/-- one row -/
theorem row_iff {Ls : List LR} {lim : Option Nat} {ns : List Nat} {place : Nat} {o : Option Frow} (hg : RowGood ns.length o) : RowOk Ls lim ns place o ↔ RowFact (natsI ns) (place : Int) (eoOf lim) o ∧ ∀ ps, o = some ps → Hits (jointAt Ls) (widthOf Ls) ps ns place := by
  cases o with
  | none =>
    constructor
    · rintro ⟨l, e, h⟩
      exact ⟨⟨(l : Int), by rw [e]; rfl, by omega⟩, fun ps e => by cases e⟩
    · rintro ⟨⟨e, h1, h2⟩, -⟩
      cases lim with
      | none => cases h1
      | some l =>
        have : e = (l : Int) := by
          have := Option.some.inj h1
          exact this.symm
        exact ⟨l, rfl, by omega⟩
  | some ps =>
    obtain ⟨hl, hT⟩ := hg ps rfl
    have hzl : (natsI ns).length = ns.length := by simp [natsI]
    constructor
    · rintro ⟨h1, h2⟩
      refine ⟨⟨List.all_eq_true.mpr fun p hp => (hT.2 p hp).2.2, by rw [hzl, hl], fun x hx => ?_⟩, fun ps' e => by cases e; exact h1⟩
      obtain ⟨i, hi, e⟩ := List.getElem_of_mem hx
      rw [List.length_zip, hzl] at hi
      have e1 : ns[i]? = some (ns[i]'(by omega)) := List.getElem?_eq_getElem (by omega)
      have e2 : ps[i]? = some (ps[i]'(by omega)) := List.getElem?_eq_getElem (by omega)
      rw [List.getElem_zip] at e
      rw [← e]
      rcases h2 i _ _ e1 e2 with q | q
      · left
        show (natsI ns)[i]'(by omega) ≤ _
        have : (natsI ns)[i]'(by omega) = ((ns[i]'(by omega) : Nat) : Int) := by unfold natsI; rw [List.getElem_map]
        rw [this]; omega
      · right
        exact frac_nil (hT.2 _ (List.getElem_mem _)).2.2 q
    · rintro ⟨⟨h1, h2, h3⟩, h4⟩
      refine ⟨h4 ps rfl, fun j n q e1 e2 => ?_⟩
      have hn : (natsI ns)[j]? = some (n : Int) := by unfold natsI; rw [List.getElem?_map, e1]; rfl
      have hx : ((n : Int), q) ∈ List.zip (natsI ns) ps := List.mem_of_getElem? (i := j) (by rw [List.getElem?_zip_eq_some]; exact ⟨hn, e2⟩)
      rcases h3 _ hx with z | z
      · left
        have z : (n : Int) ≤ (place : Int) := z
        omega
      · right
        have z : q = (0, 1) := z
        rw [z]
theorem take_zero {ns : List Nat} (h : ns.Pairwise (· < ·)) : ns.take 1 = [0] ↔ 0 ∈ ns := by
  cases ns with
  | nil => simp
  | cons n l =>
    constructor
    · intro e
      have : n = 0 := by injection e
      rw [this]; simp
    · intro h0
      rcases List.mem_cons.1 h0 with e | e
      · rw [← e]; rfl
      · have := (List.pairwise_cons.1 h).1 0 e
        omega
theorem joint_heads : ∀ (Ls : List LR), (∀ y, y ∈ jointAt Ls 0 → y = 0) ↔ ∀ L, L ∈ Ls → ∀ z, z ∈ L.heads → z = 0
  | [] => ⟨fun _ L h => (by cases h), fun _ y h => (by cases h)⟩
  | M :: Ls => by
    have ih := joint_heads Ls
    have e : jointAt (M :: Ls) 0 = M.heads ++ jointAt Ls 0 := by
      show linesAt M 0 ++ jointAt Ls 0 = _
      rw [linesAt_zero]
    rw [e]
    constructor
    · intro h L hL z hz
      rcases List.mem_cons.1 hL with q | q
      · rw [q] at hz
        exact h z (List.mem_append_left _ hz)
      · exact ih.1 (fun y hy => h y (List.mem_append_right _ hy)) L q z hz
    · intro h y hy
      rcases List.mem_append.1 hy with q | q
      · exact h M (by simp) y q
      · exact ih.2 (fun L hL => h L (by simp [hL])) y q
theorem span_iff {Ls : List LR} (h : LRok Ls) {lim : Option Nat} {ns : List Nat} {rs : List Fpair} (hG : PaperGood ns rs) : LawSpan Ls lim ns rs ↔ CertFact (eoOf lim) ns rs ∧ SpanOk (eoOf lim) (Ls.map plainOf) ns rs := by
  have hz : ∀ l : Option Nat, (eoOf l = some 0) ↔ l = some 0 := fun l => by
    cases l with
    | none => simp [eoOf]
    | some l => simp [eoOf]
  have cast0 : ∀ n : Nat, ((2 * n + 0 : Nat) : Int) = 2 * (n : Int) := fun n => by omega
  have cast1 : ∀ n : Nat, ((2 * n + 1 : Nat) : Int) = 2 * (n : Int) + 1 := fun n => by omega
  constructor
  · intro hs
    have cell : ∀ (i n : Nat) p, ns[i]? = some n → rs[i]? = some p → ∀ d, d < 2 → RowOk Ls lim ns (2 * n + d) (getH p d) := fun i n p e1 e2 d hd => hs.cell i d (List.getElem?_eq_some_iff.1 e1).1 hd n p e1 e2
    have cf : CertFact (eoOf lim) ns rs := by
      refine ⟨asc_ints ns (-1) (fun z _ => by omega) hG.asc, by have := hG.few; omega, hG.len, fun i n p e1 e2 => ?_⟩
      have hr := hG.row p (List.mem_of_getElem? e2)
      have c0 := ((row_iff (o := p.1) hr.1).1 (cell i n p e1 e2 0 (by decide))).1
      have c1 := ((row_iff (o := p.2) hr.2).1 (cell i n p e1 e2 1 (by decide))).1
      rw [cast0] at c0
      rw [cast1] at c1
      exact ⟨c0, c1⟩
    refine ⟨cf, (spanOk_iffE h cf).2 ⟨?_, fun i n p e1 e2 => ?_⟩⟩
    · rcases hs.zero with q | q | q
      · exact .inl ((take_zero hG.asc).2 q)
      · exact .inr (.inl ((hz lim).2 q))
      · exact .inr (.inr ((joint_heads Ls).1 q))
    · have hr := hG.row p (List.mem_of_getElem? e2)
      exact ⟨fun ps e => ((row_iff (o := p.1) hr.1).1 (cell i n p e1 e2 0 (by decide))).2 ps e, fun ps e => ((row_iff (o := p.2) hr.2).1 (cell i n p e1 e2 1 (by decide))).2 ps e⟩
  · rintro ⟨hc, hs⟩
    obtain ⟨h0, hh⟩ := (spanOk_iffE h hc).1 hs
    refine ⟨fun i d hi hd n p e1 e2 => ?_, ?_⟩
    · have hr := hG.row p (List.mem_of_getElem? e2)
      have hrow := hc.row i n p e1 e2
      have hit := hh i n p e1 e2
      match d, hd with
      | 0, _ => exact (row_iff (o := p.1) hr.1).2 ⟨by rw [cast0]; exact hrow.1, hit.1⟩
      | 1, _ => exact (row_iff (o := p.2) hr.2).2 ⟨by rw [cast1]; exact hrow.2, hit.2⟩
    · rcases h0 with q | q | q
      · exact .inl ((take_zero hG.asc).1 q)
      · exact .inr (.inl ((hz lim).1 q))
      · exact .inr (.inr ((joint_heads Ls).2 q))
end L2.EH
end S_X1
section S_X2
set_option exponentiation.threshold 30000
set_option maxRecDepth 100000
set_option maxHeartbeats 4000000
namespace L2.EH
open PySem PySem.Spec PyProof.Rows StX
open L2.Elim (at0 fv fsum Hits vec)
open L2.Halves (Span Vec)
/-! ### what is accepted is true -/
def fdot : List Int → Nat → Vec Nat → Rat
  | [], _, _ => 0
  | x :: r, o, v => (x : Rat) * v o + fdot r (o + 1) v
theorem fdot_lin (r : List Int) : ∀ (o : Nat) (a : Rat) (s v : Vec Nat), fdot r o (fun j => a * s j + v j) = a * fdot r o s + fdot r o v := by
  induction r with
  | nil => intro o a s v; simp only [fdot]; grind
  | cons x r ih =>
    intro o a s v
    simp only [fdot]
    rw [ih (o + 1) a s v]
    grind
theorem fdot_zero (r : List Int) : ∀ o, fdot r o (fun _ => 0) = 0 := by
  induction r with
  | nil => intro o; simp only [fdot]
  | cons x r ih =>
    intro o
    simp only [fdot]
    rw [ih (o + 1)]
    grind
theorem fdot_vec : ∀ (r a b c : List Int), r.length = b.length → fdot r a.length (vec (a ++ (b ++ c))) = ((dotp r b : Int) : Rat)
  | [], a, [], c, _ => by simp [fdot, dotp]
  | x :: r, a, y :: b, c, h => by
    have ih := fdot_vec r (a ++ [y]) b c (by simpa using h)
    have e1 : (a ++ [y]) ++ (b ++ c) = a ++ ((y :: b) ++ c) := by simp
    have e2 : (a ++ [y]).length = a.length + 1 := by simp
    rw [e1, e2] at ih
    simp only [fdot]
    rw [ih, dotp_cons, Rat.intCast_add, Rat.intCast_mul]
    congr 2
    show ((at0 (a ++ ((y :: b) ++ c)) a.length : Int) : Rat) = _
    rw [L2.Elim.at0_append_right (Nat.le_refl _), Nat.sub_self]; rfl
  | [], _, _ :: _, _, h => by simp at h
  | _ :: _, _, [], _, h => by simp at h
/-- a map of vectors by rows at places -/
def mapV (rows : List (Nat × List Int)) : Vec Nat → Vec Nat := fun v j => match rows[j]? with
  | some (o, r) => fdot r o v
  | none => 0
theorem Span.mapV {S T : Vec Nat → Prop} {v : Vec Nat} (rows : List (Nat × List Int)) (h : ∀ s, S s → Span T (mapV rows s)) (hv : Span S v) : Span T (mapV rows v) := by
  induction hv with
  | zero =>
    refine Span.zero.congr fun j => ?_
    unfold EH.mapV
    split
    · rw [fdot_zero]
    · rfl
  | more a s w hs _ ih =>
    refine (((h s hs).smul a).add ih).congr fun j => ?_
    unfold EH.mapV
    split
    · rw [fdot_lin]
    · grind
/-- the rows by which the values go on -/
def goRows (d : Int) : Nat → List LR → List (Nat × List Int)
  | _, [] => []
  | o, L :: Ls => ((halfOf L d).map fun r => (o, r)) ++ goRows d (o + L.heads.length) Ls
theorem go_step {d : Nat} (hd : d < 2) : ∀ (Ls : List LR), LRok Ls → (∀ L, L ∈ Ls → FitsL L.even L.heads) → ∀ (A : Nat → List Int) (o : Nat), (∀ z, (A z).length = o) → ∀ (m : Nat) (j : Nat), (match (goRows (d : Int) o Ls)[j]? with | some (o, r) => fdot r o (vec (A m ++ jointAt Ls m)) | none => 0) = ((at0 (jointAt Ls (2 * m + d)) j : Int) : Rat)
  | [], _, _, A, o, hA, m, j => by
    simp [goRows, jointAt]
  | L :: Ls, h, hF, A, o, hA, m, j => by
    obtain ⟨n, b, hB, hb⟩ := h L (by simp)
    have ih := go_step hd Ls (fun M hM => h M (by simp [hM])) (fun M hM => hF M (by simp [hM])) (fun z => A z ++ linesAt L z) (o + L.heads.length) (fun z => by rw [List.length_append, hA, lines_len hB]) m
    have hh := hB.half (d : Int)
    -- the lines of the rule go on
    have hl : linesAt L (2 * m + d) = imageOf (halfOf L (d : Int)) (linesAt L m) := by
      by_cases h0 : 2 * m + d = 0
      · have hm : m = 0 := by omega
        have hd0 : d = 0 := by omega
        subst hm; subst hd0
        show linesAt L 0 = _
        rw [linesAt_zero]
        have hf := hF L (by simp)
        refine List.ext_getElem? fun i => ?_
        unfold imageOf halfOf
        rw [if_pos (show ((0 : Nat) : Int) = 0 from rfl), List.getElem?_map]
        by_cases hi : i < L.heads.length
        · have e1 : L.even[i]? = some (L.even[i]'(by rw [hB.e, ← hB.h.1]; exact hi)) := List.getElem?_eq_getElem _
          have e2 : L.heads[i]? = some L.heads[i] := List.getElem?_eq_getElem hi
          rw [e1, e2]
          exact congrArg some (hf i _ _ e1 e2).symm
        · rw [List.getElem?_eq_none (by omega), List.getElem?_eq_none (by rw [hB.e, ← hB.h.1]; omega)]; rfl
      · rw [linesAt_pos L (show 0 < 2 * m + d by omega)]
        have e1 : (2 * m + d) % 2 = d := by omega
        have e2 : (2 * m + d) / 2 = m := by omega
        rw [e1, e2]
    have hlen : (halfOf L (d : Int)).length = L.heads.length := by rw [hh.1, hB.h.1]
    have ej : jointAt (L :: Ls) (2 * m + d) = linesAt L (2 * m + d) ++ jointAt Ls (2 * m + d) := rfl
    have em : jointAt (L :: Ls) m = linesAt L m ++ jointAt Ls m := rfl
    rw [ej, em]
    show (match (((halfOf L (d : Int)).map fun r => (o, r)) ++ goRows (d : Int) (o + L.heads.length) Ls)[j]? with | some (o, r) => fdot r o (vec (A m ++ (linesAt L m ++ jointAt Ls m))) | none => 0) = _
    by_cases hj : j < L.heads.length
    · rw [List.getElem?_append_left (by rw [List.length_map, hlen]; exact hj), List.getElem?_map, List.getElem?_eq_getElem (by rw [hlen]; exact hj)]
      rw [L2.Elim.at0_append_left (by rw [lines_len hB]; exact hj), hl]
      show fdot _ o _ = _
      have hr := hh.2 _ (List.getElem_mem (show j < (halfOf L (d : Int)).length by rw [hlen]; exact hj))
      rw [show o = (A m).length from (hA m).symm, fdot_vec _ _ _ _ (by rw [hr.1, lines_len hB, hB.h.1])]
      have hj2 : j < (imageOf (halfOf L (d : Int)) (linesAt L m)).length := by unfold imageOf; rw [List.length_map, hlen]; exact hj
      have e3 : (imageOf (halfOf L (d : Int)) (linesAt L m))[j]'hj2 = dotp ((halfOf L (d : Int))[j]'(by rw [hlen]; exact hj)) (linesAt L m) := List.getElem_map _
      rw [L2.Elim.at0_lt hj2, e3]
    · rw [List.getElem?_append_right (by rw [List.length_map, hlen]; omega), List.length_map, hlen, L2.Elim.at0_append_right (by rw [lines_len hB]; omega), lines_len hB]
      have := ih (j - L.heads.length)
      rw [List.append_assoc] at this
      exact this
theorem fsum_span0 {J : Nat → List Int} {S : Vec Nat → Prop} : ∀ (ps : List (Int × Int)) (ns : List Nat), (∀ (i : Nat) p n, ps[i]? = some p → ns[i]? = some n → S (vec (J n)) ∨ p.1 = 0) → Span S (fun j => fsum J j ps ns)
  | p :: ps, n :: ns, h => by
    have ih := fsum_span0 (J := J) ps ns fun i q m e1 e2 => h (i + 1) q m (by simpa using e1) (by simpa using e2)
    rcases h 0 p n rfl rfl with q | q
    · exact (Span.more (fv p) _ _ q ih).congr fun j => rfl
    · refine ih.congr fun j => ?_
      have : fv p = 0 := by
        unfold fv
        rw [q]
        have e : ((0 : Int) : Rat) = 0 := rfl
        rw [e]; grind
      simp only [fsum]
      rw [this]; grind
  | [], _, _ => Span.zero.congr fun j => by simp only [fsum]
  | _ :: _, [], _ => Span.zero.congr fun j => by simp only [fsum]
theorem hits_span0 {J : Nat → List Int} {W : Nat} (hJ : ∀ n, (J n).length = W) {ps : List (Int × Int)} {ns : List Nat} {place : Nat} {S : Vec Nat → Prop} (h : Hits J W ps ns place) (hS : ∀ (i : Nat) p n, ps[i]? = some p → ns[i]? = some n → S (vec (J n)) ∨ p.1 = 0) : Span S (vec (J place)) := by
  refine (fsum_span0 ps ns hS).congr fun j => ?_
  rcases Nat.lt_or_ge j W with q | q
  · exact h j q
  · rw [L2.Elim.fsum_far hJ q, L2.Elim.vec_zero (hJ _) q]
/-- all values hang on those at the numbers of a span -/
theorem span_all {Ls : List LR} (h : LRok Ls) (hF : ∀ L, L ∈ Ls → FitsL L.even L.heads) {lim : Option Nat} {ns : List Nat} {rs : List Fpair} (hs : LawSpan Ls lim ns rs) (hl : rs.length = ns.length) : ∀ n, (∀ l, lim = some l → n < l) → Span (fun s => ∃ m, m ∈ ns ∧ m ≤ n ∧ s = vec (jointAt Ls m)) (vec (jointAt Ls n)) := by
  intro n
  induction n using Nat.strongRecOn with
  | ind n ih =>
    intro hn
    rcases Nat.eq_zero_or_pos n with e | e
    · subst e
      rcases hs.zero with q | q | q
      · exact .of ⟨0, q, Nat.le_refl _, rfl⟩
      · exact absurd (hn 0 q) (by omega)
      · refine Span.zero.congr fun j => ?_
        show (0 : Rat) = ((at0 (jointAt Ls 0) j : Int) : Rat)
        have : at0 (jointAt Ls 0) j = 0 := by
          by_cases hj : j < (jointAt Ls 0).length
          · rw [L2.Elim.at0_lt hj]; exact q _ (List.getElem_mem hj)
          · exact L2.Elim.at0_ge (by omega)
        rw [this]; rfl
    · have hhalf := ih (n / 2) (by omega) fun l hl => by have := hn l hl; omega
      have hd : n % 2 < 2 := Nat.mod_lt _ (by decide)
      have en : 2 * (n / 2) + n % 2 = n := Nat.div_add_mod n 2
      have stp : ∀ m, mapV (goRows ((n % 2 : Nat) : Int) 0 Ls) (vec (jointAt Ls m)) = vec (jointAt Ls (2 * m + n % 2)) := fun m => funext fun j => by
        have := go_step hd Ls h hF (fun _ => []) 0 (fun _ => rfl) m j
        exact this
      have := Span.mapV (goRows ((n % 2 : Nat) : Int) 0 Ls) (T := fun s => ∃ m, m ∈ ns ∧ m ≤ n ∧ s = vec (jointAt Ls m)) (fun s ⟨m, h1, h2, h3⟩ => by
        rw [h3, stp]
        obtain ⟨i, hi, ei⟩ := List.getElem_of_mem h1
        have e1 : ns[i]? = some m := by rw [← ei]; exact List.getElem?_eq_getElem hi
        have e2 : rs[i]? = some (rs[i]'(by omega)) := List.getElem?_eq_getElem (by omega)
        have hc := hs.cell i (n % 2) hi hd m _ e1 e2
        cases ho : getH (rs[i]'(by omega)) (n % 2) with
        | none =>
          rw [ho] at hc
          obtain ⟨l, q1, q2⟩ := hc
          have := hn l q1
          omega
        | some ps =>
          rw [ho] at hc
          obtain ⟨q1, q2⟩ := hc
          exact hits_span0 (joint_len h) q1 (S := fun s => ∃ m, m ∈ ns ∧ m ≤ n ∧ s = vec (jointAt Ls m)) fun j p m' w1 w2 => by
            rcases q2 j m' p w2 w1 with z | z
            · exact .inl ⟨m', List.mem_of_getElem? w2, by omega, rfl⟩
            · exact .inr z) hhalf
      rw [stp, en] at this
      exact this
def toldRow (fs : List Int) (Ls : List LR) : List Int := (List.zipWith (fun f (L : LR) => L.told.map (f * ·)) fs Ls).flatten
theorem dotp_app' : ∀ (a b c d : List Int), a.length = c.length → dotp (a ++ b) (c ++ d) = dotp a c + dotp b d
  | [], b, [], d, _ => by simp [dotp]
  | x :: a, b, y :: c, d, h => by
    have := dotp_app' a b c d (by simpa using h)
    rw [List.cons_append, List.cons_append, dotp_cons, dotp_cons, this]
    omega
  | [], _, _ :: _, _, h => by simp at h
  | _ :: _, _, [], _, h => by simp at h
theorem dotp_mul' (x : Int) : ∀ (a c : List Int), dotp (a.map (x * ·)) c = x * dotp a c
  | [], c => by simp [dotp]
  | y :: a, [] => by simp [dotp]
  | y :: a, z :: c => by
    have := dotp_mul' x a c
    rw [List.map_cons, dotp_cons, dotp_cons, this]
    grind
theorem told_sum : ∀ (fs : List Int) (Ls : List LR), fs.length = Ls.length → LRok Ls → ∀ n, dotp (toldRow fs Ls) (jointAt Ls n) = dotp fs (Ls.map fun L => atL L n) ∧ (toldRow fs Ls).length = (jointAt Ls n).length
  | [], [], _, _, n => by simp [toldRow, jointAt, dotp]
  | f :: fs, L :: Ls, hl, h, n => by
    obtain ⟨m, b, hB, _⟩ := h L (by simp)
    have ih := told_sum fs Ls (by simpa using hl) (fun M hM => h M (by simp [hM])) n
    have e1 : toldRow (f :: fs) (L :: Ls) = L.told.map (f * ·) ++ toldRow fs Ls := rfl
    have e2 : jointAt (L :: Ls) n = linesAt L n ++ jointAt Ls n := rfl
    have hlen : (L.told.map (f * ·)).length = (linesAt L n).length := by rw [List.length_map, lines_len hB, hB.t.1, hB.h.1]
    rw [e1, e2, dotp_app' _ _ _ _ hlen, dotp_mul', ih.1, List.map_cons, dotp_cons]
    exact ⟨rfl, by rw [List.length_append, List.length_append, hlen, ih.2]⟩
  | [], _ :: _, hl, _, _ => by simp at hl
  | _ :: _, [], hl, _, _ => by simp at hl
/-- the sums are 0 at all numbers if they are at those of a span -/
theorem sound {Ls : List LR} (h : LRok Ls) (hF : ∀ L, L ∈ Ls → FitsL L.even L.heads) {lim : Option Nat} {ns : List Nat} {rs : List Fpair} (hs : LawSpan Ls lim ns rs) (hl : rs.length = ns.length) {fs : List Int} (hfl : fs.length = Ls.length) (hz : ∀ z, z ∈ ns → dotp fs (Ls.map fun L => atL L z) = 0) {n : Nat} (hn : ∀ l, lim = some l → n < l) : dotp fs (Ls.map fun L => atL L n) = 0 := by
  have hsp := span_all h hF hs hl n hn
  have ev : ∀ m, fdot (toldRow fs Ls) 0 (vec (jointAt Ls m)) = ((dotp fs (Ls.map fun L => atL L m) : Int) : Rat) := fun m => by
    have t := told_sum fs Ls hfl h m
    have := fdot_vec (toldRow fs Ls) [] (jointAt Ls m) [] t.2
    rw [t.1] at this
    simpa using this
  have key : ∀ {v : Vec Nat}, Span (fun s => ∃ m, m ∈ ns ∧ m ≤ n ∧ s = vec (jointAt Ls m)) v → fdot (toldRow fs Ls) 0 v = 0 := fun {v} hv => by
    induction hv with
    | zero => exact fdot_zero _ 0
    | more a s w hs _ ih =>
      obtain ⟨m, h1, _, h3⟩ := hs
      rw [fdot_lin, ih, h3, ev m, hz m h1]
      have e : ((0 : Int) : Rat) = 0 := rfl
      rw [e]; grind
  have := key hsp
  rw [ev n] at this
  exact_mod_cast this
end L2.EH
end S_X2
section S_U7
set_option exponentiation.threshold 30000
set_option maxRecDepth 100000
set_option maxHeartbeats 4000000
namespace L2.EH
open PySem PySem.Spec PyProof.Rows StX
def sumAt (L1 L2 : LR) (b1 b2 : Int) (z : Nat) : Int := b1 * atL L1 z + b2 * atL L2 z
def spSums (K : PySem.W.Frag) : Sp := fun vs H Q _ => ∃ (l a c : Addr) (t : Bool) (L1 L2 : LR) (b1 b2 : Int) (zs : List Nat), vs = [.ref l, .ref a, .ref c] ∧ LawsAt K H l [L1, L2] ∧ SqT K H a [.int b1, .int b2] ∧ SqK t K H c (natsV zs) ∧ LRok [L1, L2] ∧ b1.natAbs ≤ 2 ∧ b2.natAbs ≤ 2 ∧ zs.length ≤ 100 ∧ (∀ z, z ∈ zs → z < 2 ^ 13) ∧
  ∀ H' p, Same H H' → H p = none → H' p = some (.lst ((zs.map (sumAt L1 L2 b1 b2)).map V.int)) → Q (.ref p) H'
theorem scSums : FnScope ["_law_rules", "_law_by", "_law_spots", "_law_at_here"] ["_law_rules", "_law_by", "_law_spots"] (defScope sSums) := ⟨rfl, rfl, rfl, by decide +kernel, rfl, by decide +kernel, by decide +kernel⟩
section
variable {P : Program} {w : World} {K : PySem.W.Frag} {mg : Str → Option Value} {base : Heap}
theorem ok_sums {f fA : Addr} {fd fdA : FuncData} (F : Fun K "_law_sums" "_law_sums" sSums f fd) (B : BN mg) (FA : Fn' P w K mg base 3 "_law_at" fA fdA ["_law_some", "_law_at_here"] (spAt K)) :
    FnOk P w K mg base CX0 4 f fd ["_law_rules", "_law_by", "_law_spots"] (spSums K) := by
  refine F.ok scSums (fun vs H Q E h => ?_) (fun cdv A outer s H vs Q E hr h => ?_)
  · obtain ⟨l, a, c, t, L1, L2, b1, b2, zs, rfl, _⟩ := h
    rfl
  · obtain ⟨l, a, c, t, L1, L2, b1, b2, zs, rfl, ⟨xs, hl, hx⟩, ha, hc, hlr, hb1, hb2, hzl, hz, k⟩ := h
    have nd := scSums.nd
    obtain ⟨v1, v2, rfl, d1, d2⟩ : ∃ v1 v2, xs = [v1, v2] ∧ Dp K H v1 (lawD L1) ∧ Dp K H v2 (lawD L2) := by
      cases hx with
      | cons h1 r => cases r with
        | cons h2 r => cases r with
          | nil => exact ⟨_, _, rfl, h1, h2⟩
    refine ⟨_, pss_one (ps_ret (pe_lc (own := [("_law_at_here", 3)]) (g := gName 3) (tt := tYes) rfl nd (pi_seq (pv 2)) (blkOk_by (own := [("_law_at_here", 3)]) (N := ["_law_rules", "_law_by", "_law_spots", "_law_at_here"]) (sc := defScope sSums) (by decide +kernel))
        (fun _ _ _ _ _ => pg_name (i := 3) nd rfl (Or.inl rfl) (Or.inr rfl)) (fun _ _ _ _ _ => pts_nil)
        (fun _ _ _ _ _ => pe_op op_add (pe_op op_mulW (pe_ix (ix_seqK (K := K) rfl) (pv 1) pe_int (fun _ _ => rfl)) (pe_call FA.ok (by exact hr) (by rfl) FA.m FA.k FA.b .nil pass0 (pa_cons (pe_ix (ix_seqK (K := K) rfl) (pv 0) pe_int (fun _ _ => rfl)) (pa_cons (pv 3) pa_nil))))
          (pe_op op_mulW (pe_ix (ix_seqK (K := K) rfl) (pv 1) pe_int (fun _ _ => rfl)) (pe_call FA.ok (by exact hr) (by rfl) FA.m FA.k FA.b .nil pass0 (pa_cons (pe_ix (ix_seqK (K := K) rfl) (pv 0) pe_int (fun _ _ => rfl)) (pa_cons (pv 3) pa_nil))))))), ?_⟩
    refine ⟨_, rfl, c, t, rfl, ⟨_, hc⟩, fun D nD => ?_⟩
    refine lc_out (walk_sq (t := t) (xs := natsV zs)) (fun i Hd => Grow H D (((zs.map (sumAt L1 L2 b1 b2)).take i).map V.int) Hd) (Grow.start nD) (fun i Hd _ g => hc.same g.s) ?_ ?_
    · rintro i x H0 Hd hi g ⟨rfl, hx'⟩
      rw [natsV_len] at hi
      have ez : zs[i]? = some zs[i] := List.getElem?_eq_getElem hi
      rw [show (natsV zs)[i]? = some (V.int (zs[i] : Int)) by unfold natsV; rw [List.getElem?_map, ez]; rfl] at hx'
      cases hx'
      have hzi := hz _ (List.getElem_mem hi)
      have gz : (zs.map (sumAt L1 L2 b1 b2))[i]? = some (sumAt L1 L2 b1 b2 zs[i]) := by rw [List.getElem?_map, ez]; rfl
      generalize zs[i] = z at *
      have h10 : (2 : Nat) ^ 10 = 1024 := by decide
      have one : ∀ {L : LR}, L ∈ [L1, L2] → ∃ n b, LRB L n b ∧ b ≤ 100 ∧ z < 2 ^ 1100 ∧ (atL L z).natAbs < 2 ^ 131110 := fun {L} hL => by
        obtain ⟨n, b, hB, hb⟩ := hlr L hL
        have hsm := (hlr.steps (k := 13) (by decide) hL (z := z) (by rw [Nat.pow_succ]; omega)).2.2.1
        exact ⟨n, b, hB, hb, Nat.lt_of_lt_of_le hzi (Nat.pow_le_pow_right (by decide) (by decide)), Nat.lt_of_lt_of_le (dotp_lt (a := L.told) (b := linesAt L z) (by rw [hB.t.1, h10]; have := hB.few; omega) hB.t.2 hsm.2) (Nat.pow_le_pow_right (by decide) (by have := hB.bits.2; omega))⟩
      obtain ⟨n1, c1, hB1, hc1, hz1, hat1⟩ := one (L := L1) (by simp)
      obtain ⟨n2, c2, hB2, hc2, _, hat2⟩ := one (L := L2) (by simp)
      have hag := same_tup g.s ha
      have hlg := g.s.seq hl
      have p22 : (2 : Nat) < 2 ^ 2 := by decide
      refine ⟨rfl, _, rfl, SqK.ix (t := true) hag (show atI [V.int b1, V.int b2] 0 = some (V.int b1) from rfl) ?_⟩
      refine ⟨_, rfl, SqK.ix (t := false) hlg (show atI [v1, v2] 0 = some v1 from rfl) ⟨_, rfl, v1, L1, n1, c1, z, rfl, dp_same g.s d1, hB1, hc1, hz1, fun H5 s5 => ⟨_, _, rfl, rfl, wide_mul (a := 2) (b := 131110) (by omega) hat1 (by decide) (by decide) (by decide), ?_⟩⟩⟩
      have g5 := g.same s5
      refine ⟨_, rfl, SqK.ix (t := true) (same_tup s5 hag) (show atI [V.int b1, V.int b2] 1 = some (V.int b2) from rfl) ?_⟩
      refine ⟨_, rfl, SqK.ix (t := false) (s5.seq hlg) (show atI [v1, v2] 1 = some v2 from rfl) ⟨_, rfl, v2, L2, n2, c2, z, rfl, dp_same g5.s d2, hB2, hc2, hz1, fun H6 s6 => ⟨_, _, rfl, rfl, wide_mul (a := 2) (b := 131110) (by omega) hat2 (by decide) (by decide) (by decide), _, _, rfl, rfl, ?_⟩⟩⟩
      have g6 := g5.same s6
      refine ⟨_, g6.d, small1000 (by simp; omega), ?_⟩
      have := g6.step nD (V.int (sumAt L1 L2 b1 b2 z))
      rw [take_snoc' _ i _ gz, List.map_append]
      exact this
    · intro Hd g
      rw [natsV_len, List.take_of_length_le (by simp)] at g
      exact k _ D g.s nD g.d
end
end L2.EH
end S_U7
section S_U1
set_option exponentiation.threshold 20000
set_option maxRecDepth 100000
set_option maxHeartbeats 4000000
namespace L2.EH
open PySem PySem.Spec PyProof.Rows StX
/-! ### same, apart and partings, for plain rules -/
def spIsSame (K : PySem.W.Frag) : Sp := fun vs H Q _ => ∃ (t : Addr) (v1 v2 c : V) (d1 d2 d3 : Th), vs = [.ref t, c] ∧ SqT K H t [v1, v2] ∧ Td K H v1 d1 ∧ Td K H v2 d2 ∧ Td K H c d3 ∧ d1.fits ∧ d2.fits ∧ d3.fits ∧ RulesPre (.tup [d1, d2]) ∧ SumsPre none (.tup [d1, d2]) (rowT [1, -1]) d3 ∧
  ∀ b : Bool, (b = true ↔ RelOk (.tup [d1, d2]) (rowT [1, -1]) d3) → ∀ H', Same H H' → Q (.bl b) H'
theorem scIsSame : FnScope ["things", "certificate"] ["things", "certificate"] (defScope sIsSame) := ⟨rfl, rfl, rfl, by decide +kernel, rfl, by decide +kernel, by decide +kernel⟩
abbrev BIG : Int := 10 ^ 300
def spAreApart (K : PySem.W.Frag) (C : Addr) : Sp := fun vs H Q _ => ∃ (L : Addr) (l : Nat) (Rs : List Plain) (m : Nat), vs = [.ref L, .int (l : Int)] ∧ RulesAt K C H L Rs ∧ Rs.length ≤ 6 ∧ l < 2 ^ 900 ∧ (l : Int) ≤ BIG ∧ (∀ R, R ∈ Rs → Steps R l m ∧ (valQ R l).2 = 1) ∧ SumPre [1, -1] Rs l m ∧
  ∀ b : Bool, (b = true ↔ addsUp [1, -1] (toldAt Rs l) ≠ 0) → ∀ H', Same H H' → Q (.bl b) H'
theorem scAreApart : FnScope ["rules", "number", "rule"] ["rules", "number"] (defScope sAreApart) := ⟨rfl, rfl, rfl, by decide +kernel, rfl, by decide +kernel, by decide +kernel⟩
structure PartOk (Rs : List Plain) (l : Nat) (d : Th) : Prop where
  apart : addsUp [1, -1] (toldAt Rs l) ≠ 0
  span : ∃ zs rs, d = certN zs rs ∧ CertFact (some (l : Int)) zs rs ∧ SpanOk (some (l : Int)) Rs zs rs ∧ (∀ z, z ∈ zs → addsUp [1, -1] (toldAt Rs z) = 0) ∧ ∀ z, z ∈ zs.drop (zs.length - 1) → z < l
def spIsParting (K : PySem.W.Frag) : Sp := fun vs H Q _ => ∃ (t : Addr) (v1 v2 c : V) (d1 d2 d3 : Th) (l : Nat) (Rs : List Plain) (m : Nat), vs = [.ref t, c] ∧ SqT K H t [v1, v2, .int (l : Int)] ∧ Td K H v1 d1 ∧ Td K H v2 d2 ∧ Td K H c d3 ∧ d1.fits ∧ d2.fits ∧ d3.fits ∧ RulesPre (.tup [d1, d2]) ∧ plains? [d1, d2] = some Rs ∧ l < 2 ^ 900 ∧ (l : Int) ≤ BIG ∧
  (∀ R, R ∈ Rs → Steps R l m ∧ (valQ R l).2 = 1) ∧ SumPre [1, -1] Rs l m ∧ SumsPre (some (l : Int)) (.tup [d1, d2]) (rowT [1, -1]) d3 ∧ ∀ b : Bool, (b = true ↔ PartOk Rs l d3) → ∀ H', Same H H' → Q (.bl b) H'
abbrev nmParting : List Str := ["things", "certificate", "rules", "end", "number"]
theorem scIsParting : FnScope ["things", "certificate", "rules", "end", "number"] ["things", "certificate"] (defScope sIsParting) := ⟨rfl, rfl, rfl, by decide +kernel, rfl, by decide +kernel, by decide +kernel⟩
/-- a value that is not a list of one's own -/
def ValNe (K : PySem.W.Frag) (D : Addr) (H : Hp) (v : V) (x : List Int × Int) : Prop := ∃ (t c : Addr) (tt : Bool), v = .ref t ∧ SqT K H t [.ref c, .int x.2] ∧ SqK tt K H c (x.1.map V.int) ∧ (tt = false → c ≠ D)
theorem ValNe.same {K : PySem.W.Frag} {D : Addr} {H H' : Hp} {v : V} {x : List Int × Int} (s : Same H H') (h : ValNe K D H v x) : ValNe K D H' v x := by
  obtain ⟨t, c, tt, e, h1, h2, h3⟩ := h
  exact ⟨t, c, tt, e, same_tup s h1, h2.same s, h3⟩
theorem ValNe.at_ {K : PySem.W.Frag} {D : Addr} {H : Hp} {v : V} {x : List Int × Int} (h : ValNe K D H v x) : ValAt K H v x := by
  obtain ⟨t, c, tt, e, h1, h2, _⟩ := h
  exact ⟨t, c, tt, e, h1, h2⟩
theorem ValNew.ne {K : PySem.W.Frag} {D : Addr} {H0 H : Hp} {v : V} {x : List Int × Int} (hD : H0 D ≠ none) (h : ValNew K H0 H v x) : ValNe K D H v x := by
  obtain ⟨t, c, tt, e, h1, h2, h3⟩ := h
  exact ⟨t, c, tt, e, h1, h2, fun z w => hD (by rw [← w]; exact h3 z)⟩
theorem ValNe.put {K : PySem.W.Frag} {D : Addr} {H : Hp} {xs : List V} {q : HO} {v : V} {x : List Int × Int} (hD : H D = some (.lst xs)) (h : ValNe K D H v x) : ValNe K D (L2.upd H D q) v x := by
  obtain ⟨t, c, tt, e, h1, h2, h3⟩ := h
  refine ⟨t, c, tt, e, tup_keepT (keepT_upd hD rfl) h1, ?_, h3⟩
  cases tt
  · rcases h2 with (h | ⟨o, h⟩) | h
    · exact .inl (.inl (by rw [upd_ne (h3 rfl)]; exact h))
    · exact .inl (.inr ⟨o, by rw [upd_ne (h3 rfl)]; exact h⟩)
    · exact .inr h
  · exact tup_keepT (keepT_upd hD rfl) h2
theorem cut_last {xs : List V} : cutV xs (some (-1)) none = xs.drop (xs.length - 1) := by
  unfold cutV
  have e : HT.sIx xs.length 0 (some (-1)) = xs.length - 1 := by
    unfold HT.sIx
    dsimp only
    rw [if_pos (by decide)]
    omega
  rw [e, HT.sIx_none, List.take_of_length_le (by rw [List.length_drop]; omega)]
section
variable {P : Program} {w : World} {K : PySem.W.Frag} {mg : Str → Option Value} {base : Heap}
theorem ok_isSame {f fR : Addr} {fd fdR : FuncData} (F : Fun K "is_same" "is_same" sIsSame f fd) (FR : Fn' P w K mg base 8 "is_relation" fR fdR ["things", "certificate"] (spIsRelation K)) : FnOk P w K mg base CX0 9 f fd ["things", "certificate"] (spIsSame K) := by
  refine F.ok scIsSame (fun vs H Q E h => ?_) (fun cdv A outer s H vs Q E hr h => ?_)
  · obtain ⟨t, v1, v2, c, d1, d2, d3, rfl, _⟩ := h
    rfl
  · obtain ⟨t, v1, v2, c, d1, d2, d3, rfl, ht, h1, h2, h3, f1, f2, f3, hRP, hSP, k⟩ := h
    refine ⟨_, pss_one (ps_ret (pe_call FR.ok (by exact hr) (by rfl) FR.m FR.k FR.b .nil pass0 (pa_cons (pe_tup (pa_cons (pv 0) (pa_cons (pe_tup (pa_cons pe_int (pa_cons (pe_un un_neg pe_int) pa_nil))) pa_nil))) (pa_cons (pv 1) pa_nil)))), ?_⟩
    refine ⟨_, rfl, _, rfl, by show 2 ≤ sizeLine; decide, fun a na => ⟨by show 2 ≤ sizeLine; decide, fun b nb => ?_⟩⟩
    have sa := same_new (o := .tup [V.int 1, V.int (-1)]) na
    have sb := same_new (o := .tup [V.ref t, V.ref a]) nb
    have s2 := sa.trans sb
    have ha : SqT K (upd (upd H a (.tup [V.int 1, V.int (-1)])) b (.tup [V.ref t, V.ref a])) a (([1, -1] : List Int).map V.int) := SqT.of (sb _ _ upd_same)
    have da := td_of_dp (row_dp ha)
    rw [ofD_row] at da
    refine ⟨_, rfl, b, .ref t, .ref a, c, .tup [d1, d2], rowT [1, -1], d3, rfl, SqT.of upd_same, .tup (same_tup s2 ht) (.cons (td_same s2 h1) (.cons (td_same s2 h2) .nil)), da, td_same s2 h3, ?_, ?_, f3, hRP, hSP, fun b hb H' s' => k b hb H' (s2.trans s')⟩
    · unfold Th.fits
      refine ⟨by show 2 ≤ 900; decide, ?_⟩
      unfold fitsAll
      refine ⟨f1, ?_⟩
      unfold fitsAll
      exact ⟨f2, by unfold fitsAll; trivial⟩
    · unfold rowT Th.fits
      refine ⟨by show 2 ≤ 900; decide, ?_⟩
      show fitsAll [Th.int 1, Th.int (-1)]
      unfold fitsAll
      refine ⟨by unfold Th.fits; trivial, ?_⟩
      unfold fitsAll
      exact ⟨by unfold Th.fits; trivial, by unfold fitsAll; trivial⟩
theorem ok_areApart {C f fB fU fV : Addr} {fd fdB fdU fdV : FuncData} {tL : Tok} (F : Fun K "are_apart" "are_apart" sAreApart f fd) (hL : mg "LARGEST" = some (.int BIG tL)) (FB : Fn' P w K mg base 2 "is_between" fB fdB ["value", "low", "high"] (spIsBetween K))
    (FU : Fn' P w K mg base 3 "add_up_at" fU fdU ["rules", "factors", "lines"] (spAddUpAt K C)) (FV : Fn' P w K mg base 3 "values_at_all" fV fdV ["rule", "numbers"] (spValuesAtAll K C)) : FnOk P w K mg base CX0 4 f fd ["rules", "number"] (spAreApart K C) := by
  refine F.ok scAreApart (fun vs H Q E h => ?_) (fun cdv A outer s H vs Q E hr h => ?_)
  · obtain ⟨L, l, Rs, m, rfl, _⟩ := h
    rfl
  · obtain ⟨L, l, Rs, m, rfl, hRs, hRl, hl, hlB, hst, hSP, k⟩ := h
    have nd := scAreApart.nd
    have hu := hu_of hr
    obtain ⟨rxs, hLs, hrl, hrx⟩ := id hRs
    refine ⟨_, pss_cons (ps_if (pt_not (pt_val (pe_call FB.ok (by exact hr.mono (by decide)) (by rfl) FB.m FB.k FB.b .nil pass0 (pa_cons (pv 1) (pa_cons pe_int (pa_cons (pe_glob (v := .int BIG) rfl hL ⟨_, rfl⟩) pa_nil)))))) (pss_one (ps_ret pe_bl)) pss_nil)
      (pss_one (ps_ret (pe_not (pe_call FU.ok (by exact hr) (by rfl) FU.m FU.k FU.b .nil pass0 (pa_cons (pv 0) (pa_cons (pe_tup (pa_cons pe_int (pa_cons (pe_un un_neg pe_int) pa_nil)))
        (pa_cons (pe_lc (own := [("rule", 2)]) (g := gName 2) (tt := tYes) rfl nd (pi_list (pv 0)) (blkOk_by (own := [("rule", 2)]) (N := ["rules", "number", "rule"]) (sc := defScope sAreApart) (by decide +kernel)) (fun _ _ _ _ _ => pg_name (i := 2) nd rfl (Or.inl rfl) (Or.inr rfl)) (fun _ _ _ _ _ => pts_nil)
          (fun _ _ _ _ _ => pe_dget (by exact hu) (pe_call FV.ok (by exact hr) (by rfl) FV.m FV.k FV.b .nil pass0 (pa_cons (pv 2) (pa_cons (pe_lst (pa_cons (pv 1) pa_nil)) pa_nil))) (pv 1) (fun _ _ => rfl))) pa_nil))))))), ?_⟩
    refine ⟨_, rfl, .int (l : Int), .int (l : Int), 0, BIG, rfl, .int _, fun z ez => ?_, fun z => by cases z⟩
    cases ez
    refine ⟨_, rfl, iteF' (by rw [decide_eq_true ⟨by omega, hlB⟩]; rfl) ?_⟩
    refine ⟨_, rfl, _, rfl, by show 2 ≤ sizeLine; decide, fun a na => ?_⟩
    have sa := same_new (o := .tup [V.int 1, V.int (-1)]) na
    have ha : (upd H a (.tup [V.int 1, V.int (-1)])) a = some (.tup [V.int 1, V.int (-1)]) := upd_same
    generalize (upd H a (.tup [V.int 1, V.int (-1)])) = H1 at *
    have hL1 := sa.seq hLs
    have hR1 := hRs.same sa
    refine ⟨_, rfl, L, rfl, ⟨_, hL1⟩, fun D nD => ?_⟩
    refine lc_out (walk_list (xs := rxs.map V.ref)) (fun i Hc => ∃ xs : List V, Grow H1 D xs Hc ∧ xs.length = i ∧ ∀ (j : Nat) x R, xs[j]? = some x → Rs[j]? = some R → ValNe K D Hc x (JR R l, 1)) ⟨[], Grow.start nD, rfl, fun j x R e _ => by simp at e⟩ (fun i Hc _ ⟨xs, g, _⟩ => g.s.seq hL1) ?_ ?_
    · rintro i x H0 Hc hi ⟨xs, g, hxl, hxs⟩ ⟨rfl, hx'⟩
      rw [List.length_map] at hi
      have er : rxs[i]? = some rxs[i] := List.getElem?_eq_getElem hi
      have eR : Rs[i]? = some (Rs[i]'(by omega)) := List.getElem?_eq_getElem (by omega)
      rw [List.getElem?_map, er] at hx'
      cases hx'
      obtain ⟨st, si⟩ := hst _ (List.mem_of_getElem? eR)
      refine ⟨rfl, _, rfl, _, rfl, by show 1 ≤ sizeLine; decide, fun q nq => ?_⟩
      have sq := same_new (o := .lst [V.int (l : Int)]) nq
      refine ⟨rxs[i], q, Rs[i]'(by omega), [l], m, rfl, (hrx i _ _ er eR).same (sa.trans (g.s.trans sq)), SqL.of upd_same, by show 1 ≤ 1000; decide, fun z hz => by rw [List.mem_singleton.1 hz]; exact ⟨Nat.lt_of_lt_of_le hl (Nat.pow_le_pow_right (by decide) (by decide)), st⟩, fun H5 D5 kvs s5 nD5 hD5 hK hall => ?_⟩
      have h1 := hall l (by simp)
      cases ev : valV kvs (Sum.inl (l : Int)) with
      | none => rw [ev] at h1; cases h1
      | some vv =>
        have hv0 := hK l vv ev
        have e2 : valQ (Rs[i]'(by omega)) l = (JR (Rs[i]'(by omega)) l, 1) := Prod.ext rfl si
        rw [e2] at hv0
        have gq := g.same sq
        have hv : ValNe K D H5 vv (JR (Rs[i]'(by omega)) l, 1) := hv0.ne (by rw [gq.d]; intro z; cases z)
        have g5 := gq.same s5
        refine ⟨_, rfl, D5, vv, rfl, .inl ⟨kvs, Sum.inl (l : Int), .inl hD5, rfl, ev.symm⟩, _, g5.d, small1000 (by omega), xs ++ [vv], g5.step nD vv, by simp [hxl], fun j y R w1 w2 => ?_⟩
        by_cases hj : j < xs.length
        · rw [List.getElem?_append_left hj] at w1
          exact ((hxs j y R w1 w2).same (sq.trans s5)).put g5.d
        · have : j = i := by
            have := (List.getElem?_eq_some_iff.1 w1).1
            simp at this; omega
          subst this
          rw [List.getElem?_append_right (by omega), hxl, Nat.sub_self] at w1
          cases w1
          rw [eR] at w2
          cases w2
          exact hv.put g5.d
    · rintro Hc ⟨xs, g, hxl, hxs⟩
      rw [List.length_map, hrl] at hxl
      have s1c := sa.trans g.s
      refine ⟨L, a, D, Rs, [1, -1], xs, Rs.map fun R => (JR R l, (1 : Int)), m, rfl, hR1.same g.s, SqT.of (g.s _ _ ha), SqL.of g.d, by rw [hxl, List.length_map], by rw [List.length_map], fun i2 x w1 e1 e2 => ?_, fun i2 R w1 e1 e2 => ?_, by omega, by rw [zip_told]; exact hSP.add, fun H9 s9 => ?_⟩
      · rw [List.getElem?_map] at e2
        cases e3 : Rs[i2]? with
        | none => rw [e3] at e2; cases e2
        | some R =>
          rw [e3] at e2
          cases e2
          exact (hxs i2 x R e1 e3).at_
      · rw [List.getElem?_map, e1] at e2
        cases e2
        exact hSP.told R (List.mem_of_getElem? e1)
      · rw [zip_told]
        refine ⟨_, rfl, k _ ?_ H9 (s1c.trans s9)⟩
        by_cases h0 : addsUp [1, -1] (toldAt Rs l) = 0
        · rw [decide_eq_true h0]
          exact ⟨fun z => (by cases z), fun z => absurd h0 z⟩
        · rw [decide_eq_false h0]
          exact ⟨fun _ => h0, fun _ => rfl⟩
theorem ok_isParting {C f fI fA fU : Addr} {fd fdI fdA fdU : FuncData} (F : Fun K "is_parting" "is_parting" sIsParting f fd) (B : BN mg) (FI : Fn' P w K mg base 6 "rules_in" fI fdI ["values"] (spRulesIn K C)) (FA : Fn' P w K mg base 4 "are_apart" fA fdA ["rules", "number"] (spAreApart K C))
    (FU : Fn' P w K mg base 7 "add_up_in_span" fU fdU ["rules", "factors", "certificate", "end"] (spAddUpInSpan K C)) : FnOk P w K mg base CX0 8 f fd ["things", "certificate"] (spIsParting K) := by
  refine F.ok scIsParting (fun vs H Q E h => ?_) (fun cdv A outer s H vs Q E hr h => ?_)
  · obtain ⟨t, v1, v2, c, d1, d2, d3, l, Rs, m, rfl, _⟩ := h
    rfl
  · obtain ⟨t, v1, v2, c, d1, d2, d3, l, Rs, m, rfl, ht, h1, h2, h3, f1, f2, f3, hRP, hpl, hl, hlB, hst, hSP, hSums, k⟩ := h
    have nd := scIsParting.nd
    have hRl : Rs.length = 2 := plains?_len hpl
    refine ⟨_, pss_cons (ps_set (i := 2) nd rfl (Or.inl rfl) (pe_call FI.ok (by exact hr.mono (by decide)) (by rfl) FI.m FI.k FI.b .nil pass0 (pa_cons (pe_slice (show SlR _ (rSlN K) from sl_tupN) (pv 0) po_none (po_some pe_int)) pa_nil)))
      (pss_cons (ps_set (i := 3) nd rfl (Or.inr rfl) (pe_ix ix_tup (pv 0) pe_int (fun _ _ => rfl)))
      (pss_cons (ps_if (PW.pt (pw_or (pt_cmpR op_isN (pv 2) pe_non (by rfl)) (pw_or (pt_not (pt_val (pe_call FA.ok (by exact hr.mono (by decide)) (by rfl) FA.m FA.k FA.b .nil pass0 (pa_cons (pv 2) (pa_cons (pv 3) pa_nil)))))
          (pw_or1 (pt_not (pt_val (pe_call FU.ok (by exact hr) (by rfl) FU.m FU.k FU.b .nil pass0 (pa_cons (pv 2) (pa_cons (pe_tup (pa_cons pe_int (pa_cons (pe_un un_neg pe_int) pa_nil))) (pa_cons (pv 1) (pa_cons (pv 3) pa_nil))))))))))) (pss_one (ps_ret pe_bl)) pss_nil)
      (pss_one (ps_ret (pe_callB (cr_all rfl) (by rfl) B.all (by decide +kernel) (pa_cons (pe_lc (own := [("number", 4)]) (g := gName 4) (tt := tYes) rfl nd (pi_tup (pe_slice (show SlR _ (rSlN K) from sl_tupN) (pe_ix ix_tup (pv 1) pe_int (fun _ _ => rfl)) (po_some (pe_un un_neg pe_int)) po_none)) (blkOk_by (own := [("number", 4)]) (N := nmParting) (sc := defScope sIsParting) (by decide +kernel)) (fun _ _ _ _ _ => pg_name (i := 4) nd rfl (Or.inl rfl) (Or.inr rfl)) (fun _ _ _ _ _ => pts_nil)
          (fun _ _ _ _ _ => pe_cmpR op_lt (pv 4) (pv 3) (nomark _))) pa_nil)))))), ?_⟩
    refine ⟨_, rfl, _, rfl, t, _, rfl, ht, fun q H1 s1 hq => ?_⟩
    rw [show (2 : Int) = ((2 : Nat) : Int) from rfl, cut_take] at hq
    refine ⟨q, [v1, v2], [d1, d2], rfl, hq, .cons (td_same s1 h1) (.cons (td_same s1 h2) .nil), ?_, by show 2 ≤ 900; decide, hRP [d1, d2] rfl, fun Rs' hRs' H2 L s2 nL hL => ?_, fun hn => ?_⟩
    · unfold fitsAll
      refine ⟨f1, ?_⟩
      unfold fitsAll
      exact ⟨f2, by unfold fitsAll; trivial⟩
    case refine_3 => rw [hpl] at hn; cases hn
    rw [hpl] at hRs'
    cases hRs'
    have s12 := s1.trans s2
    refine ⟨_, rfl, t, _, 2, .int (l : Int), rfl, rfl, same_tup s12 ht, rfl, ?_⟩
    dsimp only [gName]
    have no : ∀ H', Same H H' → ¬ PartOk Rs l d3 → Q (.bl false) H' := fun H' s' h => k false ⟨(fun z => by cases z), fun z => absurd z h⟩ H' s'
    refine ⟨_, rfl, rfl, _, rfl, iteF ?_⟩
    refine ⟨_, rfl, _, rfl, L, l, Rs, m, rfl, hL, by omega, hl, hlB, hst, hSP, fun b1 hb1 H3 s3 => ⟨_, rfl, ?_⟩⟩
    have s13 := s12.trans s3
    cases b1 with
    | false => exact iteT' rfl (no H3 s13 fun z => by have := hb1.2 z.apart; cases this)
    | true =>
      have hap := hb1.1 rfl
      refine iteF' rfl ?_
      refine ⟨_, rfl, _, rfl, by show 2 ≤ sizeLine; decide, fun a na => ?_⟩
      have sa := same_new (o := .tup [V.int 1, V.int (-1)]) na
      have s14 := s13.trans sa
      refine ⟨_, rfl, _, rfl, c, .int (l : Int), L, a, d3, some (l : Int), Rs, [1, -1], rfl, td_same s14 h3, f3, rfl, hL.same (s3.trans sa), by omega, SqT.of upd_same, fun zs rs e hc => hSums [d1, d2] Rs [1, -1] zs rs rfl hpl rfl rfl e hc, fun b2 hb2 H5 s5 => ⟨_, rfl, ?_⟩⟩
      have s15 := s14.trans s5
      cases b2 with
      | false => exact iteT' rfl (no H5 s15 fun z => by
          obtain ⟨zs, rs, e1, e2, e3, e4, _⟩ := z.span
          have := hb2.2 ⟨zs, rs, e1, e2, e3, e4⟩
          cases this)
      | true =>
        obtain ⟨zs, rs, rfl, hc, hs, hz⟩ := hb2.1 rfl
        refine iteF' rfl ?_
        obtain ⟨av, vs, rfl, hav, hx⟩ := td_tup h3
        obtain ⟨v1', v2', rfl, e1, e2⟩ : ∃ v1 v2, vs = [v1, v2] ∧ Td K H v1 (rowT (natsI zs)) ∧ Td K H v2 (rowsT rs) := by
          cases hx with
          | cons h1 r => cases r with
            | cons h2 r => cases r with
              | nil => exact ⟨_, _, rfl, h1, h2⟩
        obtain ⟨a1, rfl, ha1⟩ := td_row e1
        rw [natsV_I] at ha1
        refine ⟨_, rfl, av, _, 0, .ref a1, rfl, rfl, same_tup s15 hav, rfl, _, rfl, _, rfl, a1, _, rfl, same_tup s15 ha1, fun q6 H6 s6 hq6 => ⟨q6, rfl, ⟨_, hq6⟩, fun D nD => ?_⟩⟩
        rw [cut_last, natsV_len] at hq6
        have hdr : (natsV zs).drop (zs.length - 1) = natsV (zs.drop (zs.length - 1)) := by unfold natsV; rw [List.map_drop]
        rw [hdr] at hq6
        generalize hys : zs.drop (zs.length - 1) = ys at *
        refine lc_out (walk_tup (xs := natsV ys)) (fun i Hc => Grow H6 D (((ys.take i).map fun z => decide (z < l)).map V.bl) Hc) (Grow.start nD) (fun i Hc _ g => same_tup g.s hq6) ?_ ?_
        · rintro i x H0 Hc hi g ⟨rfl, hx'⟩
          rw [natsV_len] at hi
          have ez : ys[i]? = some ys[i] := List.getElem?_eq_getElem hi
          rw [show (natsV ys)[i]? = some (V.int (ys[i] : Int)) by unfold natsV; rw [List.getElem?_map, ez]; rfl] at hx'
          cases hx'
          have hyl : ys.length ≤ 200 := by rw [← hys, List.length_drop]; have := hc.few; omega
          refine ⟨rfl, _, rfl, _, rfl, _, _, rfl, rfl, _, g.d, small1000 (by rw [List.length_map, List.length_map, List.length_take]; omega), ?_⟩
          have := g.step nD (V.bl (decide (ys[i] < l)))
          rw [map_bl_snoc (fun z => decide (z < l)) ys i ys[i] ez]
          have ed : decide ((ys[i] : Int) < (l : Int)) = decide (ys[i] < l) := decide_eq_decide.2 (by omega)
          dsimp only
          rw [ed]
          exact this
        · intro Hc g
          rw [natsV_len, List.take_length] at g
          refine ⟨D, _, rfl, SqL.of g.d, k _ ?_ Hc (s15.trans (s6.trans g.s))⟩
          rw [List.all_map]
          constructor
          · intro z
            refine ⟨hap, zs, rs, rfl, hc, hs, hz, fun y hy => ?_⟩
            rw [hys] at hy
            exact of_decide_eq_true (List.all_eq_true.mp z y hy)
          · rintro ⟨_, zs', rs', e, _, _, _, q⟩
            obtain ⟨rfl, rfl⟩ := certN_inj e
            rw [hys] at q
            exact List.all_eq_true.mpr fun y hy => decide_eq_true (q y hy)
end
end L2.EH
end S_U1
section S_X3
set_option exponentiation.threshold 30000
set_option maxRecDepth 100000
set_option maxHeartbeats 4000000
namespace L2.EH
open PySem PySem.Spec PyProof.Rows StX
/-! ### claims of the law -/
theorem fitsAll_of : ∀ {xs : List Th}, (∀ x, x ∈ xs → x.fits) → fitsAll xs
  | [], _ => by unfold fitsAll; trivial
  | x :: xs, h => by
    unfold fitsAll
    exact ⟨h x (by simp), fitsAll_of fun y hy => h y (by simp [hy])⟩
theorem fits_tup {xs : List Th} (h : xs.length ≤ 900) (h2 : ∀ x, x ∈ xs → x.fits) : (Th.tup xs).fits := by
  unfold Th.fits
  exact ⟨h, fitsAll_of h2⟩
theorem fits_int (i : Int) : (Th.int i).fits := by unfold Th.fits; trivial
theorem fits_row {r : List Int} (h : r.length ≤ 900) : (rowT r).fits := fits_tup (by rw [List.length_map]; exact h) fun x hx => by
  obtain ⟨i, -, rfl⟩ := List.mem_map.1 hx
  exact fits_int i
theorem fits_pair (p : Int × Int) : (pairT p).fits := fits_tup (by show 2 ≤ 900; decide) fun x hx => by
  rcases (by simpa using hx : x = .int p.1 ∨ x = .int p.2) with e | e <;> (rw [e]; exact fits_int _)
theorem fits_prow {ps : List (Int × Int)} (h : ps.length ≤ 900) : (prowT ps).fits := fits_tup (by rw [List.length_map]; exact h) fun x hx => by
  obtain ⟨p, -, rfl⟩ := List.mem_map.1 hx
  exact fits_pair p
theorem fits_mat {M : List (List (Int × Int))} (h : M.length ≤ 900) (h2 : ∀ r, r ∈ M → r.length ≤ 900) : (matT M).fits := fits_tup (by rw [List.length_map]; exact h) fun x hx => by
  obtain ⟨r, hr, rfl⟩ := List.mem_map.1 hx
  exact fits_prow (h2 r hr)
theorem fits_plain {L : LR} {n b : Nat} (h : LRB L n b) : (ofD (plainD (plainOf L))).fits := by
  have P := plainB_of h
  rw [ofD_plain]
  refine fits_tup (by show 4 ≤ 900; decide) fun x hx => ?_
  rcases (by simpa using hx : x = matT (plainOf L).even ∨ x = matT (plainOf L).odd ∨ x = rowT (plainOf L).firsts ∨ x = prowT (plainOf L).told) with e | e | e | e <;> rw [e]
  · exact fits_mat P.el fun r hr => (P.e r hr).1
  · exact fits_mat P.ol fun r hr => (P.o r hr).1
  · exact fits_row P.fl
  · exact fits_prow P.t.1
theorem fits_cert {zs : List Nat} {rs : List Fpair} (h1 : zs.length ≤ 900) (h2 : rs.length ≤ 900) (h3 : ∀ p, p ∈ rs → ∀ ps, p.1 = some ps ∨ p.2 = some ps → ps.length ≤ 900) : (certN zs rs).fits := by
  have opt : ∀ (o : Option Frow), (∀ ps, o = some ps → ps.length ≤ 900) → (optT o).fits := fun o h => by
    cases o with
    | none => show Th.non.fits; unfold Th.fits; trivial
    | some ps => exact fits_prow (h ps rfl)
  refine fits_tup (by show 2 ≤ 900; decide) fun x hx => ?_
  rcases (by simpa using hx : x = rowT (natsI zs) ∨ x = rowsT rs) with e | e <;> rw [e]
  · exact fits_row (by simpa [natsI] using h1)
  · refine fits_tup (by rw [List.length_map]; exact h2) fun y hy => ?_
    obtain ⟨p, hp, rfl⟩ := List.mem_map.1 hy
    refine fits_tup (by show 2 ≤ 900; decide) fun z hz => ?_
    rcases (by simpa using hz : z = optT p.1 ∨ z = optT p.2) with e | e <;> rw [e]
    · exact opt _ fun ps q => h3 p hp ps (.inl q)
    · exact opt _ fun ps q => h3 p hp ps (.inr q)
def plainsD (Ls : List LR) : PyData := .tuple (Ls.map fun L => plainD (plainOf L))
theorem plainsD_tup (Ls : List LR) : tupOnly (plainsD Ls) = true := tupsOnly_map (fun L => plainD (plainOf L)) (fun L => plainD_tup _) Ls
theorem ofD_plains (Ls : List LR) : ofD (plainsD Ls) = .tup (Ls.map fun L => ofD (plainD (plainOf L))) := by
  show Th.tup (ofDs _) = _
  rw [ofDs_map]
theorem ofD_opt (o : Option Frow) : ofD (optD o) = optT o := by
  cases o with
  | none => rfl
  | some ps => exact ofD_prow ps
theorem ofD_paper (ns : List Nat) (rs : List Fpair) : ofD (paperD ns rs) = certN ns rs := by
  show Th.tup [ofD (rowD (natsI ns)), Th.tup (ofDs (rs.map dupD))] = _
  rw [ofD_row, ofDs_map]
  have : (rs.map fun p => ofD (dupD p)) = rs.map dupT := List.map_congr_left fun p _ => by
    show Th.tup [ofD (optD p.1), ofD (optD p.2)] = _
    rw [ofD_opt, ofD_opt]; rfl
  rw [this]; rfl
theorem paperD_tup (ns : List Nat) (rs : List Fpair) : tupOnly (paperD ns rs) = true := by
  have := tupsOnly_map dupD dupD_tup rs
  simp [paperD, tupOnly, tupsOnly, rowD_tup, this]
structure GoodW (Ls : List LR) : Prop where
  ok : ∀ L, L ∈ Ls → (∃ n b, LRB L n b ∧ b ≤ 100 ∧ n ≤ 100) ∧ FitsL L.even L.heads
  l9 : Ls.length ≤ 900
theorem GoodW.lr {Ls : List LR} (h : GoodW Ls) : LRok Ls := fun L hL => by
  obtain ⟨⟨n, b, h1, h2, _⟩, _⟩ := h.ok L hL
  exact ⟨n, b, h1, h2⟩
theorem GoodW.plains {Ls : List LR} (h : GoodW Ls) : plains? (Ls.map fun L => ofD (plainD (plainOf L))) = some (Ls.map plainOf) := plains_of Ls fun L hL => by
  obtain ⟨⟨n, b, h1, h2, h3⟩, h4⟩ := h.ok L hL
  exact ⟨⟨n, b, h1, h3⟩, h4⟩
theorem GoodW.pre {Ls : List LR} (h : GoodW Ls) : RulesPre (.tup (Ls.map fun L => ofD (plainD (plainOf L)))) := by
  intro ds e d hd R hR
  have : ds = Ls.map fun L => ofD (plainD (plainOf L)) := by injection e with e; exact e.symm
  subst this
  obtain ⟨L, hL, rfl⟩ := List.mem_map.1 hd
  obtain ⟨⟨n, b, h1, h2, h3⟩, h4⟩ := h.ok L hL
  rw [shape_of h1 h3] at hR
  cases hR
  exact plainB_of h1
def SP66 (K : PySem.W.Frag) (word : Str) : Sp := fun vs H Q E => (word = ("relation" : Str) ∧ spIsRelation K vs H Q E) ∨ (word = ("same" : Str) ∧ spIsSame K vs H Q E) ∨ (word = ("parting" : Str) ∧ spIsParting K vs H Q E)
abbrev spAcc (K : PySem.W.Frag) : Sp := spAccepts K (SP66 K) (fun w n => (w = ("relation" : Str) ∧ n = 2) ∨ (w = ("same" : Str) ∧ n = 2) ∨ (w = ("parting" : Str) ∧ n = 3))
theorem fnok_weak {P : Program} {w : World} {K : PySem.W.Frag} {mg : Str → Option Value} {base : Heap} {k k' : Nat} {f : Addr} {fd : FuncData} {ps : List Str} {sp sp' : Sp} (h : FnOk P w K mg base CX0 k f fd ps sp) (hk : k ≤ k') (hs : ∀ vs H Q E, sp' vs H Q E → sp vs H Q E) : FnOk P w K mg base CX0 k' f fd ps sp' :=
  ⟨fun vs H Q E z => h.len vs H Q E (hs vs H Q E z), fun A outer s H args us vs Q E hr he hb hv z => h.run A outer s H args us vs Q E (hr.mono hk) he hb hv (hs vs H Q E z)⟩
/-- two drawn rules -/
structure Two (L1 L2 : LR) : Prop where
  one : ∃ n, n ≤ 2 ∧ LRB L1 n 5
  two : ∃ n, n ≤ 2 ∧ LRB L2 n 5
  f1 : FitsL L1.even L1.heads
  f2 : FitsL L2.even L2.heads
theorem Two.r5 {L1 L2 : LR} (h : Two L1 L2) : Rules5 [L1, L2] := by
  obtain ⟨n, hn, hB⟩ := h.one
  obtain ⟨m, hm, hC⟩ := h.two
  refine ⟨fun L hL => ?_, ?_⟩
  · rcases (by simpa using hL : L = L1 ∨ L = L2) with e | e <;> rw [e]
    · exact ⟨n, hB⟩
    · exact ⟨m, hC⟩
  · show (List.map (fun L => L.heads.length) [L1, L2]).sum ≤ 4
    simp only [List.map_cons, List.map_nil, List.sum_cons, List.sum_nil]
    rw [hB.h.1, hC.h.1]; omega
theorem Two.fits {L1 L2 : LR} (h : Two L1 L2) : ∀ L, L ∈ [L1, L2] → FitsL L.even L.heads := fun L hL => by
  rcases (by simpa using hL : L = L1 ∨ L = L2) with e | e <;> rw [e]
  · exact h.f1
  · exact h.f2
theorem Two.good {L1 L2 : LR} (h : Two L1 L2) : GoodW [L1, L2] := by
  obtain ⟨n, hn, hB⟩ := h.one
  obtain ⟨m, hm, hC⟩ := h.two
  refine ⟨fun L hL => ⟨?_, h.fits L hL⟩, by show 2 ≤ 900; decide⟩
  rcases (by simpa using hL : L = L1 ∨ L = L2) with e | e <;> rw [e]
  · exact ⟨n, 5, hB, by decide, by omega⟩
  · exact ⟨m, 5, hC, by decide, by omega⟩
theorem tame_fine {ps : Frow} (h : Tame 2000 ps) : Fine ps := h.fine (by decide)
theorem PaperGood.fine {ns : List Nat} {rs : List Fpair} (h : PaperGood ns rs) : ∀ (i : Nat) p, rs[i]? = some p → (∀ ps, p.1 = some ps → Fine ps) ∧ (∀ ps, p.2 = some ps → Fine ps) := fun i p e => by
  have hr := h.row p (List.mem_of_getElem? e)
  exact ⟨fun ps e => tame_fine (hr.1 ps e).2, fun ps e => tame_fine (hr.2 ps e).2⟩
theorem PaperGood.fits {ns : List Nat} {rs : List Fpair} (h : PaperGood ns rs) : (certN ns rs).fits := by
  have h1 := h.few
  have h2 := h.len
  refine fits_cert (by omega) (by omega) fun p hp ps e => ?_
  have hr := h.row p hp
  rcases e with e | e
  · have := (hr.1 ps e).1; omega
  · have := (hr.2 ps e).1; omega
theorem PaperGood.z13 {ns : List Nat} {rs : List Fpair} (h : PaperGood ns rs) : ∀ z, z ∈ ns → z < 2 ^ 13 := fun z hz => by
  have := h.lt z hz
  have : (10 : Nat) < 2 ^ 13 := by decide
  omega
theorem sumsPreE {Ls : List LR} (h : LRok Ls) (hl6 : Ls.length ≤ 900) {k : Nat} (hk : k ≤ 1000) {fs : List Int} (hf : ∀ f, f ∈ fs → f.natAbs < 2 ^ 1000) {eo : Option Int} {zs : List Nat} {rs : List Fpair} (hz : ∀ z, z ∈ zs → z < 2 ^ k)
    (hT : CertFact eo zs rs → ∀ (i : Nat) p, rs[i]? = some p → (∀ ps, p.1 = some ps → Fine ps) ∧ (∀ ps, p.2 = some ps → Fine ps)) {ds : List Th} (hds : plains? ds = some (Ls.map plainOf)) : SumsPre eo (.tup ds) (rowT fs) (certN zs rs) := by
  rintro ds' Rs fs' zs' rs' e1 e2 e3 e4 e5 hc
  have : ds' = ds := by injection e1 with e; exact e.symm
  subst this
  rw [hds] at e2
  cases e2
  have : fs' = fs := by
    injection e3 with e
    have := congrArg ints? e
    rw [ints?_of, ints?_of] at this
    exact (Option.some.inj this).symm
  subst this
  obtain ⟨rfl, rfl⟩ := certN_inj e5
  have hfl : fs'.length = Ls.length := by rw [e4, ← plains?_len hds, List.length_map]
  refine ⟨130000, fun R hR => ?_, fun z hz' => sumPre_of h hk hl6 hfl hf (hz z hz')⟩
  obtain ⟨L, hL, rfl⟩ := List.mem_map.1 hR
  exact spanPre_of h hk hz hc (hT hc) hL
def SumsZ (L1 L2 : LR) (b1 b2 : Int) (ns : List Nat) : Prop := ∀ z, z ∈ ns → sumAt L1 L2 b1 b2 z = 0
theorem dotp_two (b1 b2 x y : Int) : dotp [b1, b2] [x, y] = b1 * x + b2 * y := by simp [dotp]
theorem adds_two (L1 L2 : LR) (b1 b2 : Int) (z : Nat) : addsUp [b1, b2] (toldAt [plainOf L1, plainOf L2] z) = sumAt L1 L2 b1 b2 z := by
  have : [plainOf L1, plainOf L2] = [L1, L2].map plainOf := rfl
  rw [this, toldAt_plain, addsUp_ones]
  exact dotp_two _ _ _ _
theorem rel_two {L1 L2 : LR} (h : Two L1 L2) {b1 b2 : Int} {ns : List Nat} {rs : List Fpair} (hG : PaperGood ns rs) : RelOk (.tup [ofD (plainD (plainOf L1)), ofD (plainD (plainOf L2))]) (rowT [b1, b2]) (certN ns rs) ↔ LawSpan [L1, L2] none ns rs ∧ SumsZ L1 L2 b1 b2 ns := by
  have h1 := relOk_iff (Ls := [L1, L2]) h.good.lr (ds := [ofD (plainD (plainOf L1)), ofD (plainD (plainOf L2))]) h.good.plains (by show 1 ≤ 2; decide) (by show 2 ≤ 6; decide) (fs := [b1, b2]) rfl (zs := ns) (rs := rs)
  rw [h1, span_iff h.good.lr hG]
  constructor
  · rintro ⟨c, s, z⟩
    exact ⟨⟨c, (spanOk_iff h.good.lr c).2 s⟩, fun y hy => by show b1 * atL L1 y + b2 * atL L2 y = 0; rw [← dotp_two]; exact z y hy⟩
  · rintro ⟨⟨c, s⟩, z⟩
    exact ⟨c, (spanOk_iff h.good.lr c).1 s, fun y hy => by show dotp [b1, b2] [atL L1 y, atL L2 y] = 0; rw [dotp_two]; exact z y hy⟩
theorem last_all {ns : List Nat} (h : ns.Pairwise (· < ·)) (l : Nat) : (∀ z, z ∈ ns.drop (ns.length - 1) → z < l) ↔ ∀ z, z ∈ ns → z < l := by
  constructor
  · intro hd z hz
    obtain ⟨i, hi, e⟩ := List.getElem_of_mem hz
    have hl : ns.length - 1 < ns.length := by omega
    have h1 := hd (ns[ns.length - 1]) (by
      rw [List.drop_eq_getElem_cons hl]; exact List.mem_cons_self ..)
    by_cases hi2 : i = ns.length - 1
    · subst hi2; omega
    · have := List.pairwise_iff_getElem.1 h i (ns.length - 1) hi hl (by omega)
      omega
  · exact fun hd z hz => hd z (List.mem_of_mem_drop hz)
structure PartL (L1 L2 : LR) (l : Nat) (ns : List Nat) (rs : List Fpair) : Prop where
  apart : sumAt L1 L2 1 (-1) l ≠ 0
  span : LawSpan [L1, L2] (some l) ns rs
  sums : SumsZ L1 L2 1 (-1) ns
  below : ∀ z, z ∈ ns → z < l
theorem part_two {L1 L2 : LR} (h : Two L1 L2) {l : Nat} {ns : List Nat} {rs : List Fpair} (hG : PaperGood ns rs) : PartOk [plainOf L1, plainOf L2] l (certN ns rs) ↔ PartL L1 L2 l ns rs := by
  have hs := span_iff (lim := some l) h.good.lr hG
  constructor
  · rintro ⟨h1, zs, rs', e, c, s, z, q⟩
    obtain ⟨rfl, rfl⟩ := certN_inj e
    exact ⟨by rw [← adds_two]; exact h1, hs.2 ⟨c, s⟩, fun y hy => by rw [← adds_two]; exact z y hy, (last_all hG.asc l).1 q⟩
  · rintro ⟨h1, h2, h3, h4⟩
    obtain ⟨c, s⟩ := hs.1 h2
    exact ⟨by rw [adds_two]; exact h1, ns, rs, rfl, c, s, fun y hy => by rw [adds_two]; exact h3 y hy, (last_all hG.asc l).2 h4⟩
section
variable {K : PySem.W.Frag} {t a c : Addr} {v1 v2 : V} {H : Hp} {Q : VK} {L1 L2 : LR} {ns : List Nat} {rs : List Fpair}
theorem big_one {f : Int} (h : f.natAbs ≤ 2) : f.natAbs < 2 ^ 1000 := by
  have : (2 : Nat) ^ 2 ≤ 2 ^ 1000 := Nat.pow_le_pow_right (by decide) (by decide)
  omega
theorem acc_rel {b1 b2 : Int} (h : Two L1 L2) (hG : PaperGood ns rs) (ht : SqT K H t [.str "relation", v1, .ref a]) (h1 : Dp K H v1 (plainsD [L1, L2])) (ha : SqT K H a (([b1, b2] : List Int).map V.int)) (hc : Dp K H (.ref c) (paperD ns rs)) (g1 : b1.natAbs ≤ 2) (g2 : b2.natAbs ≤ 2)
    (k : ∀ b : Bool, (b = true ↔ LawSpan [L1, L2] none ns rs ∧ SumsZ L1 L2 b1 b2 ns) → ∀ H', Same H H' → Q (.bl b) H') : spAcc K [.ref t, .ref c] H Q E0 := by
  refine ⟨t, _, "relation", [v1, .ref a], rfl, ht, .inl ⟨rfl, rfl⟩, by show 2 ≤ 10; decide, fun H' p s' hp => .inl ⟨rfl, ?_⟩⟩
  have d1 := td_of_dp (dp_same s' h1)
  rw [ofD_plains] at d1
  have d2 := td_of_dp (row_dp (same_tup s' ha))
  rw [ofD_row] at d2
  have d3 := td_of_dp (dp_same s' hc)
  rw [ofD_paper] at d3
  refine ⟨p, v1, .ref a, .ref c, _, _, _, rfl, hp, d1, d2, d3, ?_, fits_row (by show 2 ≤ 900; decide), hG.fits, h.good.pre, sumsPreE h.good.lr h.good.l9 (k := 13) (by decide) (fun f hf => ?_) hG.z13 (fun _ => hG.fine) h.good.plains, fun b hb H2 s2 => k b (hb.trans (rel_two h hG)) H2 (s'.trans s2)⟩
  · refine fits_tup (by show 2 ≤ 900; decide) fun x hx => ?_
    obtain ⟨L, hL, rfl⟩ := List.mem_map.1 hx
    obtain ⟨⟨n, b, g, _⟩, _⟩ := h.good.ok L hL
    exact fits_plain g
  · rcases (by simpa using hf : f = b1 ∨ f = b2) with e | e <;> rw [e]
    · exact big_one g1
    · exact big_one g2
theorem two_pre (h : Two L1 L2) : RulesPre (.tup [ofD (plainD (plainOf L1)), ofD (plainD (plainOf L2))]) := h.good.pre
theorem one_neg : ∀ f, f ∈ ([1, -1] : List Int) → f.natAbs < 2 ^ 1000 := fun f hf => by
  rcases (by simpa using hf : f = 1 ∨ f = -1) with e | e <;> rw [e]
  · exact big_one (by decide)
  · exact big_one (by decide)
theorem acc_same (h : Two L1 L2) (hG : PaperGood ns rs) (ht : SqT K H t [.str "same", v1, v2]) (h1 : Dp K H v1 (plainD (plainOf L1))) (h2 : Dp K H v2 (plainD (plainOf L2))) (hc : Dp K H (.ref c) (paperD ns rs))
    (k : ∀ b : Bool, (b = true ↔ LawSpan [L1, L2] none ns rs ∧ SumsZ L1 L2 1 (-1) ns) → ∀ H', Same H H' → Q (.bl b) H') : spAcc K [.ref t, .ref c] H Q E0 := by
  refine ⟨t, _, "same", [v1, v2], rfl, ht, .inr (.inl ⟨rfl, rfl⟩), by show 2 ≤ 10; decide, fun H' p s' hp => .inr (.inl ⟨rfl, ?_⟩)⟩
  have d3 := td_of_dp (dp_same s' hc)
  rw [ofD_paper] at d3
  obtain ⟨n, _, hB⟩ := h.one
  obtain ⟨m, _, hC⟩ := h.two
  exact ⟨p, v1, v2, .ref c, _, _, _, rfl, hp, td_of_dp (dp_same s' h1), td_of_dp (dp_same s' h2), d3, fits_plain hB, fits_plain hC, hG.fits, two_pre h, sumsPreE (Ls := [L1, L2]) h.good.lr h.good.l9 (k := 13) (by decide) one_neg hG.z13 (fun _ => hG.fine) h.good.plains, fun b hb H2 s2 => k b (hb.trans (rel_two h hG)) H2 (s'.trans s2)⟩
theorem acc_part {l : Nat} (h : Two L1 L2) (hG : PaperGood ns rs) (hl : l < 20) (ht : SqT K H t [.str "parting", v1, v2, .int (l : Int)]) (h1 : Dp K H v1 (plainD (plainOf L1))) (h2 : Dp K H v2 (plainD (plainOf L2))) (hc : Dp K H (.ref c) (paperD ns rs))
    (k : ∀ b : Bool, (b = true ↔ PartL L1 L2 l ns rs) → ∀ H', Same H H' → Q (.bl b) H') : spAcc K [.ref t, .ref c] H Q E0 := by
  refine ⟨t, _, "parting", [v1, v2, .int (l : Int)], rfl, ht, .inr (.inr ⟨rfl, rfl⟩), by show 3 ≤ 10; decide, fun H' p s' hp => .inr (.inr ⟨rfl, ?_⟩)⟩
  have d3 := td_of_dp (dp_same s' hc)
  rw [ofD_paper] at d3
  obtain ⟨n, _, hB⟩ := h.one
  obtain ⟨m, _, hC⟩ := h.two
  have l13 : l < 2 ^ 13 := by have : (20 : Nat) < 2 ^ 13 := by decide
                              omega
  have l14 : l < 2 ^ (13 + 1) := by have : (2 : Nat) ^ 13 ≤ 2 ^ (13 + 1) := by decide
                                    omega
  refine ⟨p, v1, v2, .ref c, _, _, _, l, [plainOf L1, plainOf L2], 130000, rfl, hp, td_of_dp (dp_same s' h1), td_of_dp (dp_same s' h2), d3, fits_plain hB, fits_plain hC, hG.fits, two_pre h, h.good.plains, Nat.lt_of_lt_of_le l13 (Nat.pow_le_pow_right (by decide) (by decide)), ?_, fun R hR => ?_, sumPre_of (Ls := [L1, L2]) h.good.lr (k := 13) (by decide) h.good.l9 rfl one_neg l13, sumsPreE (Ls := [L1, L2]) h.good.lr h.good.l9 (k := 13) (by decide) one_neg hG.z13 (fun _ => hG.fine) h.good.plains, fun b hb H2 s2 => k b (hb.trans (part_two h hG)) H2 (s'.trans s2)⟩
  · have : (20 : Int) ≤ BIG := by decide
    omega
  · obtain ⟨L, hL, rfl⟩ := List.mem_map.1 (show R ∈ [L1, L2].map plainOf from hR)
    exact ⟨(h.good.lr.steps (k := 13) (by decide) hL l14).2.1, by rw [valQ_plain]⟩
end
end L2.EH
end S_X3
section S_U8
set_option exponentiation.threshold 30000
set_option maxRecDepth 100000
set_option maxHeartbeats 4000000
namespace L2.EH
open PySem PySem.Spec PyProof.Rows StX
/-! ### whether claims without a limit are accepted exactly if they are right -/
theorem andV {σ : L2.St} {H : Hp} {Q : VK} {ta tb : TE} {P1 P2 : Prop} (hA : ∀ Q : VK, (∀ (b : Bool) H1, (b = true ↔ P1) → Same H H1 → Q (.bl b) H1) → ta σ H Q) (hB : ∀ H1, Same H H1 → P1 → ∀ Q : VK, (∀ (b : Bool) H2, (b = true ↔ P2) → Same H H2 → Q (.bl b) H2) → tb σ H1 Q)
    (k : ∀ (b : Bool) H', (b = true ↔ P1 ∧ P2) → Same H H' → Q (.bl b) H') : tAndV ta tb σ H Q := by
  unfold tAndV
  refine hA _ fun b H1 hb s1 => ⟨b, rfl, ?_⟩
  cases b with
  | true => exact hB H1 s1 (hb.1 rfl) _ fun c H2 hc s2 => k c H2 (hc.trans ⟨fun h => ⟨hb.1 rfl, h⟩, fun h => h.2⟩) s2
  | false => exact k false H1 ⟨(fun h => by cases h), fun h => by have := hb.2 h.1; cases this⟩ s1
theorem asg_and {σ : L2.St} {H : Hp} {ta tb : TE} {g : TG} {t2 : TS} {D : Ends} {P1 P2 : Prop} (hA : ∀ Q : VK, (∀ (b : Bool) H1, (b = true ↔ P1) → Same H H1 → Q (.bl b) H1) → ta σ H Q) (hB : ∀ H1, Same H H1 → P1 → ∀ Q : VK, (∀ (b : Bool) H2, (b = true ↔ P2) → Same H H2 → Q (.bl b) H2) → tb σ H1 Q)
    (k : ∀ (b : Bool) H', (b = true ↔ P1 ∧ P2) → Same H H' → g (.bl b) σ H' (t2 D)) : tSeq (tAsg (tAndV ta tb) g) t2 D σ H := andV hA hB k
theorem seq_join {t1 t2 : TS} {D : Ends} {σ : L2.St} {H : Hp} (I : L2.St → Hp → Prop) (h2 : ∀ σ' H', I σ' H' → t2 D σ' H') (h1 : ∀ D' : Ends, (∀ σ' H', I σ' H' → D'.nx σ' H') → t1 D' σ H) : tSeq t1 t2 D σ H := h1 _ h2
theorem ifs_and_skip {σ : L2.St} {Hc : Hp} {tA tC : TT} {ta tb : TS} {D : Ends} {b1 : Bool} (hA : ∀ Q : Bool → Hp → Prop, Q b1 Hc → tA σ Hc Q) (h1 : b1 = true → ∀ Q : Bool → Hp → Prop, (∀ H', Same Hc H' → Q false H') → tC σ Hc Q) (h : ∀ H', Same Hc H' → tb D σ H') : tIfS (tAnd tA tC) ta tb D σ Hc := by
  unfold tIfS tAnd
  refine hA _ ?_
  cases b1 with
  | true => exact h1 rfl _ fun H' s' => h H' s'
  | false => exact h Hc (Same.refl Hc)
theorem rg_nats (n : Nat) : rgV 0 (n : Int) = natsV (List.range n) := by
  unfold rgV natsV
  rw [show ((n : Int) - 0).toNat = n by omega]
  exact List.map_congr_left fun i _ => by rw [Int.zero_add]
theorem repl_bl (n : Nat) (b : Bool) : (List.replicate n [V.bl b]).flatten = List.replicate n (V.bl b) := flat_rep n _
theorem rep_bools {K : PySem.W.Frag} {H : Hp} {a : Addr} {n : Nat} {b : Bool} {Q : VK} (hn : n = 1 ∨ n = 2) (ha : H a = some (.lst (List.replicate n (V.bl b)))) (q : Q (.str (PyData.shown (.list (List.replicate n (.bool b))))) H) : rRep K [V.ref a] H Q := by
  refine ⟨_, .list (List.replicate n (.bool b)), rfl, .lst (SqL.of ha) ?_, ?_, ?_, ?_, ?_, q⟩
  · rcases hn with rfl | rfl
    · exact .cons (.bl b) .nil
    · exact .cons (.bl b) (.cons (.bl b) .nil)
  all_goals rcases hn with rfl | rfl <;> cases b <;> decide +kernel
structure PCtx (K : PySem.W.Frag) (l pp : Addr) (Ls : List LR) (ns : List Nat) (rs : List Fpair) (H : Hp) : Prop where
  l : LawsD K H l Ls
  d : Dp K H (.ref pp) (paperD ns rs)
theorem PCtx.same {K : PySem.W.Frag} {l pp : Addr} {Ls : List LR} {ns : List Nat} {rs : List Fpair} {H H' : Hp} (s : Same H H') (h : PCtx K l pp Ls ns rs H) : PCtx K l pp Ls ns rs H' := ⟨h.l.same s, dp_same s h.d⟩
/-- the numbers of a paper -/
theorem paper_nums {K : PySem.W.Frag} {pp : Addr} {ns : List Nat} {rs : List Fpair} {H : Hp} (h : Dp K H (.ref pp) (paperD ns rs)) : ∃ (c : Addr) (v : V), SqT K H pp [.ref c, v] ∧ SqT K H c (natsV ns) := by
  obtain ⟨_, xp, ec, hpp, hxp⟩ := dp_tup h
  cases ec
  obtain ⟨vn, vr, rfl, dn, _⟩ : ∃ v1 v2, xp = [v1, v2] ∧ Dp K H v1 (rowD (natsI ns)) ∧ Dp K H v2 (.tuple (rs.map dupD)) := by
    cases hxp with
    | cons h1 r => cases r with
      | cons h2 r => cases r with
        | nil => exact ⟨_, _, rfl, h1, h2⟩
  obtain ⟨c, rfl, hc⟩ := dp_row dn
  rw [natsV_I] at hc
  exact ⟨c, vr, hpp, hc⟩
theorem sums_z {L1 L2 : LR} {b1 b2 : Int} {ns : List Nat} : ((ns.map (sumAt L1 L2 b1 b2)).filter fun x => decide (x ≠ 0)) = [] ↔ SumsZ L1 L2 b1 b2 ns := by
  rw [List.filter_eq_nil_iff]
  constructor
  · intro h z hz
    have := h _ (List.mem_map.2 ⟨z, hz, rfl⟩)
    simpa using this
  · intro h x hx
    obtain ⟨z, hz, rfl⟩ := List.mem_map.1 hx
    simp [h z hz]
theorem Two.sound {L1 L2 : LR} (h : Two L1 L2) {b1 b2 : Int} {lim : Option Nat} {ns : List Nat} {rs : List Fpair} (hG : PaperGood ns rs) (hs : LawSpan [L1, L2] lim ns rs) (hz : SumsZ L1 L2 b1 b2 ns) {n : Nat} (hn : ∀ l, lim = some l → n < l) : sumAt L1 L2 b1 b2 n = 0 := by
  have := EH.sound h.good.lr h.fits hs hG.len (fs := [b1, b2]) rfl (fun z q => by
    show dotp [b1, b2] [atL L1 z, atL L2 z] = 0
    rw [dotp_two]; exact hz z q) hn
  have e : dotp [b1, b2] [atL L1 n, atL L2 n] = 0 := this
  rw [dotp_two] at e
  exact e
def spSpanRight (K : PySem.W.Frag) : Sp := fun vs H Q _ => ∃ (p l a : Addr) (hi : Nat) (L1 L2 : LR) (b1 b2 : Int), vs = [.ref p, .ref l, .ref a] ∧ Purse H p hi ∧ hi ≤ 30000 ∧ LawsD K H l [L1, L2] ∧ Two L1 L2 ∧ SqT K H a [.int b1, .int b2] ∧ b1.natAbs ≤ 2 ∧ b2.natAbs ≤ 2 ∧
  ∀ H', Kept p H H' → Purse H' p (hi + 600) → Q (.bl true) H'
abbrev nmSpanRight : List Str := ["_law_source_here", "_law_rules", "_law_by", "_law_paper_here", "_law_plains", "_law_due", "_law_told", "_law_one"]
theorem scSpanRight : FnScope ["_law_source_here", "_law_rules", "_law_by", "_law_paper_here", "_law_plains", "_law_due", "_law_told", "_law_one"] ["_law_source_here", "_law_rules", "_law_by"] (defScope sSpanRight) := ⟨rfl, rfl, rfl, by decide +kernel, rfl, by decide +kernel, by decide +kernel⟩
section
variable {P : Program} {w : World} {K : PySem.W.Frag} {mg : Str → Option Value} {base : Heap}
theorem ok_spanRight {f fPa fPl fS fU fA : Addr} {fd fdPa fdPl fdS fdU fdA : FuncData} (F : Fun K "_law_span_right" "_law_span_right" sSpanRight f fd) (B : BN mg) (FPa : Fn' P w K mg base 6 "_law_paper" fPa fdPa ["_law_source_here", "_law_rules", "_law_limit"] (spPaper K))
    (FPl : Fn' P w K mg base 1 "_law_plain" fPl fdPl ["_law_some"] (spPlain K)) (FS : Fn' P w K mg base 4 "_law_is_span" fS fdS ["_law_rules", "_law_paper_here", "_law_limit"] (spIsSpan K))
    (FU : Fn' P w K mg base 4 "_law_sums" fU fdU ["_law_rules", "_law_by", "_law_spots"] (spSums K)) (FA : Fn' P w K mg base 10 "accepts" fA fdA ["claim", "certificate"] (spAcc K)) :
    FnG P w K mg base CX0 11 f fd ["_law_source_here", "_law_rules", "_law_by"] (spSpanRight K) := by
  refine Fun.okG F scSpanRight (fun vs H Q E h => ?_) (fun cdv A outer s H vs Q E hr hG h => ?_)
  · obtain ⟨p, l, a, hi, L1, L2, b1, b2, rfl, _⟩ := h
    rfl
  · obtain ⟨p, l, a, hi, L1, L2, b1, b2, rfl, hp, hhi, hLs, hT, ha, hb1, hb2, k⟩ := h
    have nd := scSpanRight.nd
    refine ⟨_, (pss_cons (ps_par (i := 3) (j := 4) (by rfl) nd rfl rfl (by decide) rfl rfl (pa_cons (pe_call FPa.ok (by exact hr.mono (by decide)) (by rfl) FPa.m FPa.k FPa.b .nil pass0 (pa_cons (pv 0) (pa_cons (pv 1) (pa_cons pe_non pa_nil)))) (pa_cons (pe_callTy call_tuple_of (by rfl) B.tuple (by decide +kernel) (pa_cons (pe_lc (own := [("_law_one", 7)]) (g := gName 7) (tt := tYes) rfl nd (pi_list (pv 1)) (blkOk_by (own := [("_law_one", 7)]) (N := nmSpanRight) (sc := (defScope sSpanRight)) (by decide +kernel))
        (fun _ _ _ _ _ => pg_name (i := 7) nd rfl (Or.inl rfl) (Or.inr rfl)) (fun _ _ _ _ _ => pts_nil)
        (fun _ _ _ _ _ => (pe_call FPl.ok (by exact hr.mono (by decide)) (by rfl) FPl.m FPl.k FPl.b .nil pass0 (pa_cons (pv 7) pa_nil)))) pa_nil)) pa_nil)) (by rfl))
      (pss_cons (ps_set (i := 5) nd rfl (Or.inl rfl) (pe_and (pe_call FS.ok (by exact hr.mono (by decide)) (by rfl) FS.m FS.k FS.b .nil pass0 (pa_cons (pv 1) (pa_cons (pv 3) (pa_cons pe_non pa_nil)))) (pe_one (pe_cmpR (op_eqD hr.units) (pe_lc (own := [("_law_one", 7)]) (g := gName 7) rfl nd (pi_list (pe_call FU.ok (by exact hr.mono (by decide)) (by rfl) FU.m FU.k FU.b .nil pass0 (pa_cons (pv 1) (pa_cons (pv 2) (pa_cons (pe_ix ix_tup (pv 3) pe_int (fun _ _ => rfl)) pa_nil))))) (blkOk_by (own := [("_law_one", 7)]) (N := nmSpanRight) (sc := (defScope sSpanRight)) (by decide +kernel)) (fun _ _ _ _ _ => pg_name (i := 7) nd rfl (Or.inl rfl) (Or.inr rfl)) (fun _ _ _ _ _ => pts_one (pt_cmpR op_ne (pv 7) pe_int (nomark _))) (fun _ _ _ _ _ => (pv 7))) (pe_lst pa_nil) (by rfl)))))
      (pss_cons (ps_if (PW.pt (pw_and (pt_val (pv 5)) (pw_and1 (pt_cmpR (show OpR _ (compareOp .NotEq) (rNeD K) from op_neD (by exact hr.units)) (pe_call FU.ok (by exact hr.mono (by decide)) (by rfl) FU.m FU.k FU.b .nil pass0 (pa_cons (pv 1) (pa_cons (pv 2) (pa_cons (pe_listRg rfl (by rfl) B.list (prg_1 (by rfl) B.range pe_int)) pa_nil)))) (pe_op op_rep (pe_lst (pa_cons pe_int pa_nil)) pe_int) (by rfl))))) (pss_one (ps_ret pe_bl)) pss_nil)
      (pss_cons (ps_set (i := 6) nd rfl (Or.inl rfl) (pe_lst (pa_cons (pe_call FA.ok (by exact hr) (by rfl) FA.m FA.k FA.b .nil pass0 (pa_cons (pe_tup (pa_cons pe_str (pa_cons (pv 4) (pa_cons (pv 2) pa_nil)))) (pa_cons (pv 3) pa_nil))) pa_nil)))
      (pss_cons (ps_if (pt_cmpR (op_eqD hr.units) (pv 2) (pe_tup (pa_cons pe_int (pa_cons (pe_un un_neg pe_int) pa_nil))) (by rfl)) (pss_one (ps_expr (pe_bm PySem.F.plainAttrs_list PySem.F.slot_list_append PySem.F.type_list_append mt_append (pv 6) (pa_cons (pe_call FA.ok (by exact hr) (by rfl) FA.m FA.k FA.b .nil pass0 (pa_cons (pe_tup (pa_cons pe_str (pa_cons (pe_ix ix_tup (pv 4) pe_int (fun _ _ => rfl)) (pa_cons (pe_ix ix_tup (pv 4) pe_int (fun _ _ => rfl)) pa_nil)))) (pa_cons (pv 3) pa_nil))) pa_nil)))) pss_nil)
      (pss_one (ps_ret (pe_cmpR op_eq (pe_callB (call_rep hG hr.units) (by rfl) B.repr (by decide +kernel) (pa_cons (pv 6) pa_nil)) (pe_callB (call_rep hG hr.units) (by rfl) B.repr (by decide +kernel) (pa_cons (pe_op op_rep (pe_lst (pa_cons (pv 5) pa_nil)) (pe_callB call_len (by rfl) B.len boot_len (pa_cons (pv 6) pa_nil))) pa_nil)) (by rfl))))))))), ?_⟩
    obtain ⟨xs, hx1, hx2⟩ := id hLs
    -- the paper
    refine ⟨_, rfl, _, rfl, p, l, .non, hi, [L1, L2], none, rfl, hp, by omega, hLs, hT.r5, rfl, fun ns rs H1 q hG k1 p1 dpap => ?_⟩
    have hL1 := hLs.kept k1 hp
    have ha1 := tup_keepT (k1.keepT hp) ha
    obtain ⟨xs, hx1, hx2⟩ := id hL1
    have hxl : (xs.map V.ref).length = 2 := by rw [dpAll_len hx2]; rfl
    -- the plain rules
    refine ⟨_, rfl, l, rfl, ⟨_, SqL.of hx1⟩, fun D nD => ?_⟩
    refine lc_out (walk_list (xs := xs.map V.ref)) (fun i Hd => GrowD K H1 D (([L1, L2].take i).map fun L => plainD (plainOf L)) Hd) (GrowD.start nD) (fun i Hd _ ⟨_, g, _⟩ => SqL.of (g.s _ _ hx1)) ?_ ?_
    · rintro i x H0 Hd hi' ⟨acc, g, da⟩ ⟨rfl, hx'⟩
      obtain ⟨d, hd1, hd2⟩ := dpAll_get' hx2 hx'
      rw [List.getElem?_map] at hd1
      cases eL : [L1, L2][i]? with
      | none => rw [eL] at hd1; cases hd1
      | some L =>
        rw [eL] at hd1
        cases hd1
        obtain ⟨⟨n, b, hB, _⟩, _⟩ := hT.good.ok L (List.mem_of_getElem? eL)
        refine ⟨rfl, _, rfl, x, L, n, b, rfl, dp_same g.s hd2, hB, fun H7 r s7 nr dr => ?_⟩
        refine GrowD.step nD ⟨acc, g, da⟩ s7 dr (plainD_tup _) (tupsOnly_map (fun L => plainD (plainOf L)) (fun L => plainD_tup _) _) (by simp; omega) fun Hn gn => ?_
        rw [take_snoc' [L1, L2] i L eL, List.map_append]
        exact gn
    rintro Hd ⟨acc, g, da⟩
    rw [hxl, show [L1, L2].take 2 = [L1, L2] from rfl] at da
    refine ⟨D, _, rfl, .inl ⟨SqL.of g.d, fun pl npl => ⟨_, _, rfl, ?_⟩⟩⟩
    have s2 := g.s.trans (same_new (o := .tup acc) npl)
    have dpl : Dp K (_root_.L2.upd Hd pl (.tup acc)) (.ref pl) (plainsD [L1, L2]) := .tup (SqT.of upd_same) (dpAll_same (same_new npl) da)
    have C2 : PCtx K l q [L1, L2] ns rs (_root_.L2.upd Hd pl (.tup acc)) := ⟨hL1.same s2, dp_same s2 dpap⟩
    have ha2 := same_tup s2 ha1
    have p2 := p1.same s2
    have k02 : Kept p H (_root_.L2.upd Hd pl (.tup acc)) := k1.trans (Same.kept s2)
    generalize (_root_.L2.upd Hd pl (.tup acc)) = H2 at *
    -- whether the paper is right
    dsimp only
    refine asg_and (P1 := LawSpan [L1, L2] none ns rs) (P2 := SumsZ L1 L2 b1 b2 ns) (fun Q q => ⟨_, rfl, _, rfl, l, _, .non, [L1, L2], none, ns, rs, rfl, C2.l.at, hT.r5, C2.d, hG, rfl, fun b hb H' s' => q b H' hb s'⟩) (fun H3 s3 _ Q q3 => ?_) fun due H3 hdue s3 => ?_
    · have C3 := C2.same s3
      obtain ⟨cn, vn, hq, hcn⟩ := paper_nums C3.d
      refine ⟨_, rfl, _, rfl, _, rfl, q, _, 0, .ref cn, rfl, rfl, hq, rfl, l, a, cn, true, L1, L2, b1, b2, ns, rfl, C3.l.at, same_tup s3 ha2, hcn, hT.good.lr, hb1, hb2, by have := hG.few; omega, hG.z13, fun H4 c s4 nc hc => ?_⟩
      refine ⟨c, rfl, ⟨_, SqL.of hc⟩, fun D4 nD4 => ?_⟩
      refine lc_out (walk_list (xs := (ns.map (sumAt L1 L2 b1 b2)).map V.int)) (fun i Hd => Grow H4 D4 ((((ns.map (sumAt L1 L2 b1 b2)).take i).filter fun x => decide (x ≠ 0)).map V.int) Hd) (Grow.start nD4) (fun i Hd _ g => SqL.of (g.s _ _ hc)) ?_ ?_
      · rintro i x H0 Hd4 hi' g4 ⟨rfl, hx'⟩
        rw [List.getElem?_map] at hx'
        cases ez : (ns.map (sumAt L1 L2 b1 b2))[i]? with
        | none => rw [ez] at hx'; cases hx'
        | some z =>
          rw [ez] at hx'
          cases hx'
          have hil := (List.getElem?_eq_some_iff.1 ez).1
          rw [List.length_map] at hil
          have hfew := hG.few
          rw [take_snoc' _ i _ ez, List.filter_append]
          refine ⟨rfl, _, rfl, rfl, _, rfl, ?_⟩
          by_cases h0 : z = 0
          · refine iteF' (by rw [h0]; rfl) ?_
            rw [List.filter_cons_of_neg (by simp [h0]), List.filter_nil, List.append_nil]
            exact g4
          · refine iteT' (by rw [int_dec, decide_eq_false h0]; rfl) ⟨_, rfl, _, g4.d, small1000 ?_, ?_⟩
            · rw [List.length_map]
              have := List.length_filter_le (fun x => decide (x ≠ 0)) ((ns.map (sumAt L1 L2 b1 b2)).take i)
              rw [List.length_take] at this
              omega
            · rw [List.filter_cons_of_pos (by simp [h0]), List.filter_nil, List.map_append]
              exact g4.step nD4 (V.int z)
      · intro H5 g5
        rw [List.length_map, List.take_length] at g5
        refine ⟨by show 0 ≤ sizeLine; decide, fun e ne => ?_⟩
        have se := same_new (o := .lst []) ne
        refine ⟨_, _, .lst (SqL.of (se _ _ g5.d)) (ints_dp _), .lst (SqL.of upd_same) (ints_dp []), shaped_ints _, shaped_ints [], ?_⟩
        rw [eqv_list]
        exact q3 _ _ ⟨fun h => sums_z.1 (of_decide_eq_true h), fun h => decide_eq_true (sums_z.2 h)⟩ (s3.trans (s4.trans (g5.s.trans se)))
    have C3 := C2.same s3
    have ha3 := same_tup s3 ha2
    -- if it is right, the claim is true
    refine ifs_and_skip (b1 := due) (fun Q q => ⟨_, rfl, _, rfl, q⟩) (fun hb Q hQ => ?_) fun H4 s4 => ?_
    · subst hb
      obtain ⟨g1, g2⟩ := hdue.1 rfl
      have z16 : ((List.range 16).map (sumAt L1 L2 b1 b2)) = List.replicate 16 0 := by
        rw [List.eq_replicate_iff]
        refine ⟨by rw [List.length_map, List.length_range], fun x hx => ?_⟩
        obtain ⟨n, hn, rfl⟩ := List.mem_map.1 hx
        exact hT.sound hG g1 g2 fun l e => by cases e
      refine ⟨_, rfl, _, rfl, _, rfl, RgOk.of_le (by decide) (by decide) (by decide) (by decide), fun r nr => ?_⟩
      have sr := same_new (o := .lst (rgV 0 16)) nr
      have hr16 : (_root_.L2.upd H3 r (.lst (rgV 0 16))) r = some (.lst (natsV (List.range 16))) := by rw [upd_same, show (16 : Int) = ((16 : Nat) : Int) from rfl, rg_nats]
      refine ⟨l, a, r, false, L1, L2, b1, b2, List.range 16, rfl, (C3.same sr).l.at, same_tup sr ha3, SqL.of hr16, hT.good.lr, hb1, hb2, by rw [List.length_range]; decide, fun z hz => Nat.lt_trans (List.mem_range.1 hz) (by decide), fun H5 c s5 nc hc => ?_⟩
      refine ⟨by show 1 ≤ sizeLine; decide, fun e ne => ⟨e, 16, _, rfl, rfl, upd_same, by decide, by decide, by decide, fun v nv => ?_⟩⟩
      have se := same_new (o := .lst [V.int 0]) ne
      have sv := same_new (o := .lst (List.replicate (16 : Int).toNat [V.int 0]).flatten) nv
      rw [z16] at hc
      have hv : (_root_.L2.upd (_root_.L2.upd H5 e (.lst [V.int 0])) v (.lst (List.replicate (16 : Int).toNat [V.int 0]).flatten)) v = some (.lst ((List.replicate 16 (0 : Int)).map V.int)) := by
        rw [upd_same, flat_rep, List.map_replicate]; rfl
      refine ⟨_, _, .lst (xs := (List.replicate 16 (0 : Int)).map V.int) (SqL.of ((se.trans sv) _ _ hc)) (ints_dp _), .lst (SqL.of hv) (ints_dp _), shaped_ints _, shaped_ints _, ?_⟩
      rw [eqv_list, decide_eq_true rfl]
      exact ⟨_, rfl, hQ _ (sr.trans (s5.trans (se.trans sv)))⟩
    have C4 := C3.same s4
    have ha4 := same_tup s4 ha3
    have s24 := s3.trans s4
    -- accepted exactly if it is right
    refine ⟨_, rfl, _, rfl, by show 3 ≤ sizeLine; decide, fun t nt => ?_⟩
    have st := same_new (o := .tup [V.str "relation", V.ref pl, V.ref a]) nt
    have eqb : ∀ {b : Bool}, (b = true ↔ LawSpan [L1, L2] none ns rs ∧ SumsZ L1 L2 b1 b2 ns) → b = due := fun {b} hb => by
      have := hb.trans hdue.symm
      cases b <;> cases due <;> simp at this <;> rfl
    refine ⟨_, rfl, acc_rel hT hG (SqT.of upd_same) (dp_same (s24.trans st) dpl) (same_tup st ha4) (C4.same st).d hb1 hb2 fun b hb H5 s5 => ?_⟩
    obtain rfl := eqb hb
    refine ⟨by show 1 ≤ sizeLine; decide, fun lt nlt => ?_⟩
    have slt := same_new (o := .lst [V.bl b]) nlt
    have hlt : (_root_.L2.upd H5 lt (.lst [V.bl b])) lt = some (.lst [V.bl b]) := upd_same
    have s26 := (s24.trans st).trans (s5.trans slt)
    have C6 := C2.same s26
    have ha6 := same_tup s26 ha2
    have p6 := p2.same s26
    have k06 : Kept p H (_root_.L2.upd H5 lt (.lst [V.bl b])) := k02.trans (Same.kept s26)
    have ltp : lt ≠ p := fun e => by obtain ⟨_, _, _, h1, _⟩ := p2.same ((s24.trans st).trans s5); rw [← e, nlt] at h1; cases h1
    have n5 : ∀ bb o, H bb = some o → bb ≠ p → bb ≠ lt := fun bb o hb hbp => ne_of_none (((s24.trans st).trans s5) _ _ (k02 bb o hbp hb)) nlt
    have dpl6 := dp_same s26 dpl
    generalize (_root_.L2.upd H5 lt (.lst [V.bl b])) = H6 at *
    dsimp only [gName]
    refine seq_join (I := fun σ H' => ∃ (n : Nat) (x7 : Option V), (n = 1 ∨ n = 2) ∧ σ = [some (.ref p), some (.ref l), some (.ref a), some (.ref q), some (.ref pl), some (.bl b), some (.ref lt), x7] ∧ H' lt = some (.lst (List.replicate n (V.bl b))) ∧ Kept p H H' ∧ Purse H' p (hi + 600)) ?_ fun D' hD' => ?_
    · rintro σ H7 ⟨n, x7, hn, rfl, h7, k7, p7⟩
      refine ⟨_, rfl, ?_⟩
      dsimp only [tNil]
      refine rep_bools hn h7 ?_
      refine ⟨_, rfl, by show 1 ≤ sizeLine; decide, fun e ne => ?_⟩
      have se := same_new (o := .lst [V.bl b]) ne
      refine ⟨_, rfl, _, _, rfl, .inl ⟨_, SqL.of (se _ _ h7), rfl⟩, ?_⟩
      rw [List.length_replicate]
      refine ⟨e, _, _, rfl, rfl, upd_same, by omega, by omega, ?_, fun r nr => ?_⟩
      · have : 2 ≤ sizeLine := by decide
        show 1 * ((n : Int)).toNat ≤ sizeLine
        omega
      have sr := same_new (o := .lst (List.replicate ((n : Int)).toNat [V.bl b]).flatten) nr
      dsimp only [tNil]
      refine rep_bools (n := n) (b := b) hn (by rw [upd_same, repl_bl, show ((n : Int)).toNat = n by omega]) ?_
      refine ⟨rfl, ?_⟩
      rw [decide_eq_true rfl]
      exact k _ (k7.trans (Same.kept (se.trans sr))) (p7.same (se.trans sr))
    · refine ⟨_, rfl, _, rfl, by show 2 ≤ sizeLine; decide, fun t2 nt2 => ?_⟩
      have st2 := same_new (o := .tup [V.int 1, V.int (-1)]) nt2
      refine ⟨_, _, row_dp (r := [b1, b2]) (same_tup st2 ha6), row_dp (r := [1, -1]) (SqT.of upd_same), shaped_row _, shaped_row _, ?_⟩
      rw [eqv_row]
      refine ⟨_, rfl, ?_⟩
      by_cases hby : [b1, b2] = [1, -1]
      · obtain ⟨rfl, rfl⟩ : b1 = 1 ∧ b2 = -1 := by simpa using hby
        refine iteT' (by rfl) ?_
        have C7 := C6.same st2
        have hlt7 := st2 _ _ hlt
        have dpl7 := dp_same st2 dpl6
        obtain ⟨_, xp, ec, hpl, hxp⟩ := dp_tup dpl7
        cases ec
        obtain ⟨v1, v2, rfl, d1, d2⟩ : ∃ v1 v2, xp = [v1, v2] ∧ Dp K _ v1 (plainD (plainOf L1)) ∧ Dp K _ v2 (plainD (plainOf L2)) := by
          cases hxp with
          | cons h1 r => cases r with
            | cons h2 r => cases r with
              | nil => exact ⟨_, _, rfl, h1, h2⟩
        refine ⟨_, rfl, .inl ⟨rfl, _, SqL.of hlt7⟩, _, rfl, pl, _, 0, v1, rfl, rfl, hpl, rfl, _, rfl, pl, _, 1, v2, rfl, rfl, hpl, rfl, by show 3 ≤ sizeLine; decide, fun t3 nt3 => ?_⟩
        have st3 := same_new (o := .tup [V.str "same", v1, v2]) nt3
        refine ⟨_, rfl, acc_same hT hG (SqT.of upd_same) (dp_same st3 d1) (dp_same st3 d2) (C7.same st3).d fun b' hb' H8 s8 => ?_⟩
        obtain rfl := eqb hb'
        have s68 := st2.trans (st3.trans s8)
        refine ⟨lt, _, _, rfl, rfl, s68 _ _ hlt, by show 1 < sizeLine; decide, hD' _ _ ⟨2, _, .inr rfl, rfl, upd_same, fun bb o hbp hb => ?_, ((p6.same s68).upd ltp)⟩⟩
        rw [upd_ne (n5 bb o hb hbp)]
        exact s68 _ _ (k06 bb o hbp hb)
      · refine iteF' (decide_eq_false hby) (hD' _ _ ⟨1, _, .inl rfl, rfl, st2 _ _ hlt, k06.trans (Same.kept st2), p6.same st2⟩)
end
end L2.EH
end S_U8
section S_U9
set_option exponentiation.threshold 30000
set_option maxRecDepth 100000
set_option maxHeartbeats 4000000
namespace L2.EH
open PySem PySem.Spec PyProof.Rows StX
/-! ### whether partings are accepted exactly if they are right -/
theorem asg_join {te : TE} {g : TG} {t2 : TS} {D : Ends} {σ : L2.St} {H : Hp} (I : V → Hp → Prop) (h : ∀ Q : VK, (∀ v H', I v H' → Q v H') → te σ H Q) (k : ∀ v H', I v H' → g v σ H' (t2 D)) : tSeq (tAsg te g) t2 D σ H := h _ k
def apartOf (L1 L2 : LR) (n : Nat) : List Nat := (List.range n).filter fun z => decide (sumAt L1 L2 1 (-1) z ≠ 0)
theorem apart_succ (L1 L2 : LR) (n : Nat) : apartOf L1 L2 (n + 1) = apartOf L1 L2 n ++ (if sumAt L1 L2 1 (-1) n ≠ 0 then [n] else []) := by
  unfold apartOf
  rw [List.range_succ, List.filter_append]
  by_cases h : sumAt L1 L2 1 (-1) n = 0
  · rw [List.filter_cons_of_neg (by simp [h]), List.filter_nil, if_neg (by simp [h])]
  · rw [List.filter_cons_of_pos (by simp [h]), List.filter_nil, if_pos h]
theorem apart_mem {L1 L2 : LR} {n z : Nat} : z ∈ apartOf L1 L2 n ↔ z < n ∧ sumAt L1 L2 1 (-1) z ≠ 0 := by
  unfold apartOf
  rw [List.mem_filter, List.mem_range]
  simp
theorem apart_len (L1 L2 : LR) (n : Nat) : (apartOf L1 L2 n).length ≤ n := by
  have := List.length_filter_le (fun z => decide (sumAt L1 L2 1 (-1) z ≠ 0)) (List.range n)
  rw [List.length_range] at this
  exact this
theorem apart_first {L1 L2 : LR} {n l : Nat} (hl : l ∈ apartOf L1 L2 n) (h : ∀ z, z < l → sumAt L1 L2 1 (-1) z = 0) : (apartOf L1 L2 n)[0]? = some l := by
  have hp : (apartOf L1 L2 n).Pairwise (· < ·) := List.Pairwise.filter _ List.pairwise_lt_range
  cases e : apartOf L1 L2 n with
  | nil => rw [e] at hl; cases hl
  | cons a as =>
    rw [e] at hl hp
    have ha : a ∈ apartOf L1 L2 n := by rw [e]; simp
    rcases List.mem_cons.1 hl with q | q
    · rw [q]; rfl
    · have := List.rel_of_pairwise_cons hp q
      exact absurd (h a this) (apart_mem.1 ha).2
theorem below_nil {ns : List Nat} {l : Nat} : (ns.filter fun z => decide (l ≤ z)) = [] ↔ ∀ z, z ∈ ns → z < l := by
  rw [List.filter_eq_nil_iff]
  constructor
  · intro h z hz
    have := h z hz
    simp at this
    exact this
  · intro h z hz
    have := h z hz
    simp; omega
theorem shown_len (b : Bool) : (PyData.shown (.bool b)).length ≤ sizeLine := by cases b <;> decide +kernel
theorem rep_bool {K : PySem.W.Frag} {H : Hp} {b : Bool} {Q : VK} (q : Q (.str (PyData.shown (.bool b))) H) : rRep K [V.bl b] H Q :=
  ⟨_, .bool b, rfl, .bl b, rfl, rfl, by show PyData.depth (.bool b) ≤ 8; simp [PyData.depth], shown_len b, q⟩
def spPartingRight (K : PySem.W.Frag) : Sp := fun vs H Q _ => ∃ (p l : Addr) (hi : Nat) (L1 L2 : LR), vs = [.ref p, .ref l] ∧ Purse H p hi ∧ hi ≤ 30000 ∧ LawsD K H l [L1, L2] ∧ Two L1 L2 ∧
  ∀ H', Kept p H H' → Purse H' p (hi + 610) → Q (.bl true) H'
abbrev nmPartingRight : List Str := ["_law_source_here", "_law_rules", "_law_apart", "_law_limit", "_law_paper_here", "_law_due", "_law_one", "_law_at_here"]
theorem scPartingRight : FnScope ["_law_source_here", "_law_rules", "_law_apart", "_law_limit", "_law_paper_here", "_law_due", "_law_one", "_law_at_here"] ["_law_source_here", "_law_rules"] (defScope sPartingRight) := ⟨rfl, rfl, rfl, by decide +kernel, rfl, by decide +kernel, by decide +kernel⟩
section
variable {P : Program} {w : World} {K : PySem.W.Frag} {mg : Str → Option Value} {base : Heap}
theorem ok_partingRight {f fD fPa fPl fS fU fA : Addr} {fd fdD fdPa fdPl fdS fdU fdA : FuncData} (F : Fun K "_law_parting_right" "_law_parting_right" sPartingRight f fd) (B : BN mg) (FD : Fn' P w K mg base 1 "_law_draw" fD fdD ["_law_source_here", "_law_many"] spDraw)
    (FPa : Fn' P w K mg base 6 "_law_paper" fPa fdPa ["_law_source_here", "_law_rules", "_law_limit"] (spPaper K))
    (FPl : Fn' P w K mg base 1 "_law_plain" fPl fdPl ["_law_some"] (spPlain K)) (FS : Fn' P w K mg base 4 "_law_is_span" fS fdS ["_law_rules", "_law_paper_here", "_law_limit"] (spIsSpan K))
    (FU : Fn' P w K mg base 4 "_law_sums" fU fdU ["_law_rules", "_law_by", "_law_spots"] (spSums K)) (FA : Fn' P w K mg base 10 "accepts" fA fdA ["claim", "certificate"] (spAcc K)) :
    FnG P w K mg base CX0 11 f fd ["_law_source_here", "_law_rules"] (spPartingRight K) := by
  refine Fun.okG F scPartingRight (fun vs H Q E h => ?_) (fun cdv A outer s H vs Q E hr hG h => ?_)
  · obtain ⟨p, l, hi, L1, L2, rfl, _⟩ := h
    rfl
  · obtain ⟨p, l, hi, L1, L2, rfl, hp, hhi, hLs, hT, k⟩ := h
    have nd := scPartingRight.nd
    refine ⟨_, (pss_cons (ps_setLc (i := 2) (own := [("_law_at_here", 7)]) (g := gName 7) (by rfl) nd rfl rfl (sw_true rfl rfl rfl (by decide +kernel)) (pi_range1 (by rfl) B.range (pa_cons pe_int pa_nil)) (blkOk_by (own := [("_law_at_here", 7)]) (N := nmPartingRight) (sc := (defScope sPartingRight)) (by decide +kernel))
        (fun _ _ _ _ _ => pg_name (i := 7) nd rfl (Or.inl rfl) (Or.inr rfl)) (fun _ _ _ _ _ => pts_one (pt_cmpR (show OpR _ (compareOp .NotEq) (rNeD K) from op_neD (by exact hr.units)) (pe_call FU.ok (by exact hr.mono (by decide)) (by rfl) FU.m FU.k FU.b .nil pass0 (pa_cons (pv 1) (pa_cons (pe_tup (pa_cons pe_int (pa_cons (pe_un un_neg pe_int) pa_nil))) (pa_cons (pe_lst (pa_cons (pv 7) pa_nil)) pa_nil)))) (pe_lst (pa_cons pe_int pa_nil)) (by rfl)))
        (fun _ _ _ _ _ => (pv 7)))
      (pss_cons (ps_set (i := 3) nd rfl (Or.inr rfl) (pe_ifExp (PW.pt (pw_and (pt_cmpR (show OpR _ (compareOp .NotEq) (rNeD K) from op_neD (by exact hr.units)) (pv 2) (pe_lst pa_nil) (by rfl)) (pw_and1 (pt_cmpR op_gt (pe_call FD.ok (by exact hr.mono (by decide)) (by rfl) FD.m FD.k FD.b .nil pass0 (pa_cons (pv 0) (pa_cons pe_int pa_nil))) pe_int (nomark _))))) (pe_ix (ix_seqK (K := K) rfl) (pv 2) pe_int (fun _ _ => rfl)) (pe_call FD.ok (by exact hr.mono (by decide)) (by rfl) FD.m FD.k FD.b .nil pass0 (pa_cons (pv 0) (pa_cons pe_int pa_nil)))))
      (pss_cons (ps_set (i := 4) nd rfl (Or.inl rfl) (pe_call FPa.ok (by exact hr.mono (by decide)) (by rfl) FPa.m FPa.k FPa.b .nil pass0 (pa_cons (pv 0) (pa_cons (pv 1) (pa_cons (pv 3) pa_nil)))))
      (pss_cons (ps_set (i := 5) nd rfl (Or.inl rfl) (pe_and (pe_call FS.ok (by exact hr.mono (by decide)) (by rfl) FS.m FS.k FS.b .nil pass0 (pa_cons (pv 1) (pa_cons (pv 4) (pa_cons (pv 3) pa_nil)))) (pe_and (pe_cmpR (op_inK (K := K) rfl) (pv 3) (pv 2) (by rfl)) (pe_one (pe_cmpR (op_eqD hr.units) (pe_lc (own := [("_law_at_here", 7)]) (g := gName 7) rfl nd (pi_tup (pe_ix ix_tup (pv 4) pe_int (fun _ _ => rfl))) (blkOk_by (own := [("_law_at_here", 7)]) (N := nmPartingRight) (sc := (defScope sPartingRight)) (by decide +kernel)) (fun _ _ _ _ _ => pg_name (i := 7) nd rfl (Or.inl rfl) (Or.inr rfl)) (fun _ _ _ _ _ => pts_one (pt_cmpR op_ge (pv 7) (pv 3) (nomark _))) (fun _ _ _ _ _ => (pv 7))) (pe_lst pa_nil) (by rfl))))))
      (pss_cons (ps_set (i := 5) nd rfl (Or.inl rfl) (pe_and (pv 5) (pe_one (pe_cmpR (op_eqD hr.units) (pe_lc (own := [("_law_one", 6)]) (g := gName 6) rfl nd (pi_list (pe_call FU.ok (by exact hr.mono (by decide)) (by rfl) FU.m FU.k FU.b .nil pass0 (pa_cons (pv 1) (pa_cons (pe_tup (pa_cons pe_int (pa_cons (pe_un un_neg pe_int) pa_nil))) (pa_cons (pe_ix ix_tup (pv 4) pe_int (fun _ _ => rfl)) pa_nil))))) (blkOk_by (own := [("_law_one", 6)]) (N := nmPartingRight) (sc := (defScope sPartingRight)) (by decide +kernel)) (fun _ _ _ _ _ => pg_name (i := 6) nd rfl (Or.inl rfl) (Or.inr rfl)) (fun _ _ _ _ _ => pts_one (pt_cmpR op_ne (pv 6) pe_int (nomark _))) (fun _ _ _ _ _ => (pv 6))) (pe_lst pa_nil) (by rfl)))))
      (pss_cons (ps_if (PW.pt (pw_and (pt_val (pv 5)) (pw_and1 (pt_cmpR op_ne (pv 3) (pe_ix (ix_seqK (K := K) rfl) (pv 2) pe_int (fun _ _ => rfl)) (nomark _))))) (pss_one (ps_ret pe_bl)) pss_nil)
      (pss_cons (ps_set (i := 6) nd rfl (Or.inl rfl) (pe_tup (pa_cons pe_str (pa_cons (pe_call FPl.ok (by exact hr.mono (by decide)) (by rfl) FPl.m FPl.k FPl.b .nil pass0 (pa_cons (pe_ix (ix_seqK (K := K) rfl) (pv 1) pe_int (fun _ _ => rfl)) pa_nil)) (pa_cons (pe_call FPl.ok (by exact hr.mono (by decide)) (by rfl) FPl.m FPl.k FPl.b .nil pass0 (pa_cons (pe_ix (ix_seqK (K := K) rfl) (pv 1) pe_int (fun _ _ => rfl)) pa_nil)) (pa_cons (pv 3) pa_nil))))))
      (pss_one (ps_ret (pe_cmpR op_eq (pe_callB (call_rep hG hr.units) (by rfl) B.repr (by decide +kernel) (pa_cons (pe_call FA.ok (by exact hr) (by rfl) FA.m FA.k FA.b .nil pass0 (pa_cons (pv 6) (pa_cons (pv 4) pa_nil))) pa_nil)) (pe_callB (call_rep hG hr.units) (by rfl) B.repr (by decide +kernel) (pa_cons (pv 5) pa_nil)) (by rfl))))))))))), ?_⟩
    have z1 : 1 ≤ sizeLine := by decide
    have z2 : 2 ≤ sizeLine := by decide
    -- where the functions are apart
    refine ⟨(16 : Int), rfl, by decide, by decide, fun D nD => ?_⟩
    refine lc_out (walk_range (lo := 0) (n := 16)) (fun i Hd => Grow H D (natsV (apartOf L1 L2 i)) Hd) (Grow.start nD) (fun _ _ _ _ => trivial) ?_ ?_
    · rintro i x H0 Hd hi' g ⟨rfl, rfl⟩
      have eI : ((0 : Int) + (i : Nat)) = (i : Int) := by omega
      show gName 7 (V.int (0 + (i : Nat))) _ _ _
      rw [eI]
      refine ⟨rfl, _, rfl, _, rfl, z2, fun t nt => ⟨_, rfl, z1, fun c nc => ?_⟩⟩
      have st := same_new (o := .tup [V.int 1, V.int (-1)]) nt
      have sc := same_new (o := .lst [V.int (i : Int)]) nc
      have s0 := g.s.trans (st.trans sc)
      refine ⟨l, t, c, false, L1, L2, 1, -1, [i], rfl, (hLs.same s0).at, SqT.of (sc _ _ upd_same), SqL.of upd_same, hT.good.lr, by decide, by decide, by show 1 ≤ 100; decide, fun z hz => ?_, fun H3 r s3 nr hr3 => ?_⟩
      · rw [List.mem_singleton.1 hz]
        exact Nat.lt_of_lt_of_le (show i < 16 from hi') (by decide)
      · refine ⟨z1, fun e ne => ?_⟩
        have se := same_new (o := .lst [V.int 0]) ne
        refine ⟨_, _, .lst (xs := ([sumAt L1 L2 1 (-1) i]).map V.int) (SqL.of (se _ _ hr3)) (ints_dp _), .lst (xs := ([0] : List Int).map V.int) (SqL.of upd_same) (ints_dp _), shaped_ints _, shaped_ints _, ?_⟩
        rw [eqv_list]
        refine ⟨_, rfl, ?_⟩
        have g3 := g.same (st.trans (sc.trans (s3.trans se)))
        rw [apart_succ]
        by_cases h0 : sumAt L1 L2 1 (-1) i = 0
        · refine iteF' (by rw [h0]; rfl) ?_
          rw [if_neg (by simp [h0]), List.append_nil]
          exact g3
        · refine iteT' (by rw [decide_eq_false (by simpa using h0)]; rfl) ⟨_, rfl, _, g3.d, small1000 ?_, ?_⟩
          · have := apart_len L1 L2 i
            rw [natsV_len]; omega
          · rw [if_pos h0, natsV_app]
            exact g3.step nD (V.int (i : Int))
    intro H1 g1
    have hD1 := g1.d
    have s01 := g1.s
    have L1' := hLs.same s01
    have p1 := hp.same s01
    have k01 : Kept p H H1 := Same.kept s01
    have hDp : D ≠ p := fun e => by obtain ⟨_, _, _, h1, _⟩ := hp; rw [← e, nD] at h1; cases h1
    clear g1
    -- the limit
    dsimp only [gName]
    refine asg_join (I := fun v H' => ∃ lm : Nat, v = .int (lm : Int) ∧ lm < 16 ∧ Kept p H1 H' ∧ Purse H' p (hi + 2)) (fun Q q => ?_) ?_
    · have last : ∀ (H2 : Hp), Kept p H1 H2 → Purse H2 p (hi + 1) → spDraw [.ref p, .int 10] H2 Q E0 := fun H2 k2 p2 => by
        refine ⟨p, _, 10, rfl, p2, by omega, by decide, by decide, fun d H3 h0 h1 k3 p3 => q _ _ ⟨d.toNat, by rw [show ((d.toNat : Nat) : Int) = d by omega], by omega, k2.trans k3, p3⟩⟩
      unfold tIf tAnd
      refine ⟨_, rfl, by show 0 ≤ sizeLine; decide, fun e ne => ?_⟩
      have se := same_new (o := .lst []) ne
      have hD2 := se _ _ hD1
      refine ⟨_, _, .lst (xs := (natsI (apartOf L1 L2 16)).map V.int) (by rw [natsV_I]; exact SqL.of hD2) (ints_dp _), .lst (SqL.of upd_same) (ints_dp []), shaped_ints _, shaped_ints [], ?_⟩
      rw [eqv_list]
      refine ⟨_, rfl, ?_⟩
      cases ea : apartOf L1 L2 16 with
      | nil =>
        refine iteF' (by rfl) (iteF' rfl ?_)
        exact ⟨_, rfl, last _ (Same.kept se) ((p1.same se).wide (by omega))⟩
      | cons a0 as =>
        have h16 : a0 < 16 := (apart_mem.1 (show a0 ∈ apartOf L1 L2 16 by rw [ea]; simp)).1
        refine iteT' (by rfl) ?_
        refine ⟨_, rfl, p, hi, 3, rfl, p1.same se, by omega, by decide, by decide, fun d H2 h0 h1 k2 p2 => ⟨_, _, rfl, rfl, _, rfl, ?_⟩⟩
        by_cases hd : 0 < d
        · refine iteT' (decide_eq_true hd) ?_
          rw [ea] at hD2
          exact ⟨_, rfl, SqK.ix (t := false) (SqL.of (k2 _ _ hDp hD2)) (show atI (natsV (a0 :: as)) 0 = some (V.int (a0 : Int)) from atI_nat (j := 0) (by unfold natsV; rfl)) (q _ _ ⟨a0, rfl, h16, (Same.kept se).trans k2, p2.wide (by omega)⟩)⟩
        · exact iteF' (decide_eq_false hd) ⟨_, rfl, last _ ((Same.kept se).trans k2) p2⟩
    rintro _ H2 ⟨lm, rfl, hlm, k12, p2⟩
    have L2' := L1'.kept k12 p1
    have hD2 := k12 _ _ hDp hD1
    dsimp only [gName]
    -- the paper
    refine ⟨_, rfl, _, rfl, _, rfl, p, l, .int (lm : Int), _, [L1, L2], some lm, rfl, p2, by omega, L2', hT.r5, rfl, fun ns rs H3 q hG k23 p3 dpap => ?_⟩
    have L3' := L2'.kept k23 p2
    have hD3 := k23 _ _ hDp hD2
    have C3 : PCtx K l q [L1, L2] ns rs H3 := ⟨L3', dpap⟩
    have k03 := k01.trans (k12.trans k23)
    clear L1' L2' hD1 hD2
    dsimp only [gName]
    have hfew := hG.few
    -- whether it is right
    refine asg_and (P1 := LawSpan [L1, L2] (some lm) ns rs) (P2 := lm ∈ apartOf L1 L2 16 ∧ ∀ z, z ∈ ns → z < lm) (fun Q q' => ⟨_, rfl, _, rfl, _, rfl, l, _, .int (lm : Int), [L1, L2], some lm, ns, rs, rfl, C3.l.at, hT.r5, C3.d, hG, rfl, fun b hb H' s' => q' b H' hb s'⟩) (fun H4 s4 _ Q q4 => ?_) fun due H4 hdue s4 => ?_
    · refine andV (P1 := lm ∈ apartOf L1 L2 16) (P2 := ∀ z, z ∈ ns → z < lm) (fun Q q' => ⟨_, rfl, _, rfl, D, _, rfl, .inl (SqL.of (s4 _ _ hD3)), rfl, flat_nats _, ?_⟩) (fun H5 s5 _ Q q5 => ?_) fun b H5 hb s5 => q4 b H5 hb (s4.trans s5)
      · rw [if_neg (by decide), inV_nats]
        exact q' _ _ ⟨fun h => of_decide_eq_true h, fun h => decide_eq_true h⟩ (Same.refl _)
      · have C5 := C3.same (s4.trans s5)
        obtain ⟨cn, vn, hq, hcn⟩ := paper_nums C5.d
        refine ⟨_, rfl, q, _, 0, .ref cn, rfl, rfl, hq, rfl, cn, rfl, ⟨_, hcn⟩, fun D6 nD6 => ?_⟩
        refine lc_out (walk_tup (xs := natsV ns)) (fun i Hd => Grow H5 D6 (natsV ((ns.take i).filter fun z => decide (lm ≤ z))) Hd) (Grow.start nD6) (fun i Hd _ g => same_tup g.s hcn) ?_ ?_
        · rintro i x H0 Hd hi' g ⟨rfl, hx'⟩
          rw [natsV_len] at hi'
          have ez : ns[i]? = some ns[i] := List.getElem?_eq_getElem hi'
          rw [show (natsV ns)[i]? = some (V.int (ns[i] : Int)) by unfold natsV; rw [List.getElem?_map, ez]; rfl] at hx'
          cases hx'
          have tk := take_snoc' ns i _ ez
          generalize ns[i] = z at *
          refine ⟨rfl, _, rfl, _, rfl, _, _, rfl, rfl, _, rfl, ?_⟩
          rw [tk, List.filter_append]
          by_cases hzl : lm ≤ z
          · refine iteT' (decide_eq_true (by omega)) ⟨_, rfl, _, g.d, small1000 ?_, ?_⟩
            · rw [natsV_len]
              have := List.length_filter_le (fun z => decide (lm ≤ z)) (ns.take i)
              rw [List.length_take] at this
              omega
            · rw [List.filter_cons_of_pos (by simpa using hzl), List.filter_nil, natsV_app]
              exact g.step nD6 (V.int (z : Int))
          · refine iteF' (decide_eq_false (by omega)) ?_
            rw [List.filter_cons_of_neg (by simpa using hzl), List.filter_nil, List.append_nil]
            exact g
        · intro H6 g6
          rw [natsV_len, List.take_length] at g6
          refine ⟨by show 0 ≤ sizeLine; decide, fun e ne => ?_⟩
          have se := same_new (o := .lst []) ne
          refine ⟨_, _, .lst (xs := (natsI (ns.filter fun z => decide (lm ≤ z))).map V.int) (by rw [natsV_I]; exact SqL.of (se _ _ g6.d)) (ints_dp _), .lst (SqL.of upd_same) (ints_dp []), shaped_ints _, shaped_ints [], ?_⟩
          rw [eqv_list]
          refine q5 _ _ ⟨fun h => below_nil.1 (natsI_inj (b := []) (of_decide_eq_true h)), fun h => decide_eq_true (by rw [below_nil.2 h]; rfl)⟩ (s5.trans (g6.s.trans se))
    have C4 := C3.same s4
    have hD4 := s4 _ _ hD3
    dsimp only [gName]
    refine asg_and (P1 := LawSpan [L1, L2] (some lm) ns rs ∧ lm ∈ apartOf L1 L2 16 ∧ ∀ z, z ∈ ns → z < lm) (P2 := SumsZ L1 L2 1 (-1) ns) (fun Q q' => ⟨_, rfl, q' _ _ hdue (Same.refl _)⟩) (fun H5 s5 _ Q q5 => ?_) fun due2 H5 hdue2 s5 => ?_
    · have C5 := C4.same s5
      obtain ⟨cn, vn, hq, hcn⟩ := paper_nums C5.d
      refine ⟨_, rfl, _, rfl, z2, fun t nt => ?_⟩
      have st := same_new (o := .tup [V.int 1, V.int (-1)]) nt
      have C6 := C5.same st
      refine ⟨_, rfl, q, _, 0, .ref cn, rfl, rfl, same_tup st hq, rfl, l, t, cn, true, L1, L2, 1, -1, ns, rfl, C6.l.at, SqT.of upd_same, same_tup st hcn, hT.good.lr, by decide, by decide, by omega, hG.z13, fun H7 c s7 nc hc => ?_⟩
      refine ⟨c, rfl, ⟨_, SqL.of hc⟩, fun D4 nD4 => ?_⟩
      refine lc_out (walk_list (xs := (ns.map (sumAt L1 L2 1 (-1))).map V.int)) (fun i Hd => Grow H7 D4 ((((ns.map (sumAt L1 L2 1 (-1))).take i).filter fun x => decide (x ≠ 0)).map V.int) Hd) (Grow.start nD4) (fun i Hd _ g => SqL.of (g.s _ _ hc)) ?_ ?_
      · rintro i x H0 Hd4 hi' g4 ⟨rfl, hx'⟩
        rw [List.getElem?_map] at hx'
        cases ez : (ns.map (sumAt L1 L2 1 (-1)))[i]? with
        | none => rw [ez] at hx'; cases hx'
        | some z =>
          rw [ez] at hx'
          cases hx'
          have hil := (List.getElem?_eq_some_iff.1 ez).1
          rw [List.length_map] at hil
          rw [take_snoc' _ i _ ez, List.filter_append]
          refine ⟨rfl, _, rfl, rfl, _, rfl, ?_⟩
          by_cases h0 : z = 0
          · refine iteF' (by rw [h0]; rfl) ?_
            rw [List.filter_cons_of_neg (by simp [h0]), List.filter_nil, List.append_nil]
            exact g4
          · refine iteT' (by rw [int_dec, decide_eq_false h0]; rfl) ⟨_, rfl, _, g4.d, small1000 ?_, ?_⟩
            · rw [List.length_map]
              have := List.length_filter_le (fun x => decide (x ≠ 0)) ((ns.map (sumAt L1 L2 1 (-1))).take i)
              rw [List.length_take] at this
              omega
            · rw [List.filter_cons_of_pos (by simp [h0]), List.filter_nil, List.map_append]
              exact g4.step nD4 (V.int z)
      · intro H8 g8
        rw [List.length_map, List.take_length] at g8
        refine ⟨by show 0 ≤ sizeLine; decide, fun e ne => ?_⟩
        have se := same_new (o := .lst []) ne
        refine ⟨_, _, .lst (SqL.of (se _ _ g8.d)) (ints_dp _), .lst (SqL.of upd_same) (ints_dp []), shaped_ints _, shaped_ints [], ?_⟩
        rw [eqv_list]
        exact q5 _ _ ⟨fun h => sums_z.1 (of_decide_eq_true h), fun h => decide_eq_true (sums_z.2 h)⟩ (s5.trans (st.trans (s7.trans (g8.s.trans se))))
    have C5 := C4.same s5
    have hD5 := s5 _ _ hD4
    have hPL : due2 = true ↔ PartL L1 L2 lm ns rs := hdue2.trans ⟨fun h => ⟨(apart_mem.1 h.1.2.1).2, h.1.1, h.2, h.1.2.2⟩, fun h => ⟨⟨h.span, apart_mem.2 ⟨hlm, h.apart⟩, h.below⟩, h.sums⟩⟩
    dsimp only [gName]
    -- if it is right, the limit is the first place
    refine ifs_and_skip (b1 := due2) (fun Q q' => ⟨_, rfl, _, rfl, q'⟩) (fun hb Q hQ => ?_) fun H6 s6 => ?_
    · have hP := hPL.1 hb
      have hfst := apart_first (apart_mem.2 ⟨hlm, hP.apart⟩) fun z hz => hT.sound hG hP.span hP.sums fun l' e => by
        injection e with e
        rw [← e]; exact hz
      refine ⟨_, rfl, _, rfl, SqK.ix (t := false) (SqL.of hD5) (show atI (natsV (apartOf L1 L2 16)) 0 = some (V.int (lm : Int)) from atI_nat (j := 0) (by unfold natsV; rw [List.getElem?_map, hfst]; rfl)) ⟨rfl, _, rfl, ?_⟩⟩
      rw [decide_eq_true rfl]
      exact hQ _ (Same.refl _)
    have C6 := C5.same s6
    have s36 := s4.trans (s5.trans s6)
    dsimp only [gName]
    -- the claim
    obtain ⟨xs, hx1, hx2⟩ := id C6.l
    obtain ⟨x1, x2, rfl, hd1, hd2⟩ : ∃ x1 x2, xs = [x1, x2] ∧ Dp K H6 (.ref x1) (lawD L1) ∧ Dp K H6 (.ref x2) (lawD L2) := by
      cases xs with
      | nil => cases hx2
      | cons x1 xs =>
        cases xs with
        | nil =>
          cases hx2 with
          | cons _ r => cases r
        | cons x2 xs =>
          cases xs with
          | nil =>
            cases hx2 with
            | cons h1 r =>
              cases r with
              | cons h2 r => exact ⟨x1, x2, rfl, h1, h2⟩
          | cons x3 xs =>
            cases hx2 with
            | cons _ r =>
              cases r with
              | cons _ r => cases r
    obtain ⟨n1, _, hB1⟩ := hT.one
    obtain ⟨n2, _, hB2⟩ := hT.two
    refine ⟨_, rfl, SqK.ix (t := false) (SqL.of hx1) (show atI [V.ref x1, V.ref x2] 0 = some (V.ref x1) from rfl) ⟨.ref x1, L1, n1, 5, rfl, hd1, hB1, fun H7 v1 s7 nv1 dv1 => ?_⟩⟩
    refine ⟨_, rfl, SqK.ix (t := false) (SqL.of (s7 _ _ hx1)) (show atI [V.ref x1, V.ref x2] 1 = some (V.ref x2) from rfl) ⟨.ref x2, L2, n2, 5, rfl, dp_same s7 hd2, hB2, fun H8 v2 s8 nv2 dv2 => ?_⟩⟩
    refine ⟨_, rfl, by show 4 ≤ sizeLine; decide, fun t nt => ?_⟩
    have st := same_new (o := .tup [V.str "parting", V.ref v1, V.ref v2, V.int (lm : Int)]) nt
    have s38 := s36.trans (s7.trans (s8.trans st))
    refine ⟨_, rfl, _, rfl, acc_part hT hG (by omega) (SqT.of upd_same) (dp_same (s8.trans st) dv1) (dp_same st dv2) (C6.same (s7.trans (s8.trans st))).d fun b hb H9 s9 => ?_⟩
    obtain rfl : b = due2 := by
      have := hb.trans hPL.symm
      cases b <;> cases due2 <;> simp at this <;> rfl
    dsimp only [tNil]
    refine rep_bool ⟨_, rfl, ?_⟩
    dsimp only [tNil]
    refine rep_bool ⟨rfl, ?_⟩
    rw [decide_eq_true rfl]
    have sall := s38.trans s9
    exact k _ (k03.trans (Same.kept sall)) ((p3.same sall).wide (by omega))
end
end L2.EH
end S_U9
section S_U10
set_option exponentiation.threshold 30000
set_option maxRecDepth 100000
set_option maxHeartbeats 4000000
namespace L2.EH
open PySem PySem.Spec PyProof.Rows StX
theorem dp_law {K : PySem.W.Frag} {H : Hp} {v : V} {L : LR} (h : Dp K H v (lawD L)) : ∃ (q : Addr) (v1 v2 v3 v4 : V), v = .ref q ∧ SqT K H q [v1, v2, v3, v4] ∧ Dp K H v1 (rowsD L.even) ∧ Dp K H v2 (rowsD L.odd) ∧ Dp K H v3 (rowD L.heads) ∧ Dp K H v4 (rowD L.told) := by
  obtain ⟨q, xs, e, h1, h2⟩ := dp_tup h
  cases h2 with
  | cons a1 r =>
    cases r with
    | cons a2 r =>
      cases r with
      | cons a3 r =>
        cases r with
        | cons a4 r =>
          cases r with
          | nil => exact ⟨q, _, _, _, _, e, h1, a1, a2, a3, a4⟩
def spRightL (K : PySem.W.Frag) : Sp := fun vs H Q _ => ∃ (p : Addr) (hi : Nat), vs = [.ref p] ∧ Purse H p hi ∧ hi ≤ 6000 ∧ ∀ H', Kept p H H' → Purse H' p (hi + 2700) → Q (.bl true) H'
theorem scRight : FnScope ["_law_source_here", "_law_some", "_law_other", "_law_way", "_law_by", "_law_rules"] ["_law_source_here"] (defScope sRight) := ⟨rfl, rfl, rfl, by decide +kernel, rfl, by decide +kernel, by decide +kernel⟩
section
variable {P : Program} {w : World} {K : PySem.W.Frag} {mg : Str → Option Value} {base : Heap}
theorem ok_right {f fD fW fM fS fG : Addr} {fd fdD fdW fdM fdS fdG : FuncData} (F : Fun K "_law_right" "_law_right" sRight f fd) (B : BN mg) (FD : Fn' P w K mg base 1 "_law_draw" fD fdD ["_law_source_here", "_law_many"] spDraw)
    (FW : Fn' P w K mg base 3 "_law_row" fW fdW ["_law_source_here", "_law_many", "_law_wide"] spRow) (FM : Fn' P w K mg base 5 "_law_small" fM fdM ["_law_source_here", "_law_many", "_law_wide"] (spSmall K))
    (GS : FnG P w K mg base CX0 11 fS fdS ["_law_source_here", "_law_rules", "_law_by"] (spSpanRight K)) (mS : mg "_law_span_right" = some (.ref fS)) (kS : PySem.W.keepIn K (.ref fS) = true) (bS : Binds K fdS ["_law_source_here", "_law_rules", "_law_by"] [])
    (GP : FnG P w K mg base CX0 11 fG fdG ["_law_source_here", "_law_rules"] (spPartingRight K)) (mP : mg "_law_parting_right" = some (.ref fG)) (kP : PySem.W.keepIn K (.ref fG) = true) (bP : Binds K fdG ["_law_source_here", "_law_rules"] []) :
    FnG P w K mg base CX0 12 f fd ["_law_source_here"] (spRightL K) := by
  refine Fun.okG F scRight (fun vs H Q E h => ?_) (fun cdv A outer s H vs Q E hr hG h => ?_)
  · obtain ⟨p, hi, rfl, _⟩ := h
    rfl
  · obtain ⟨p, hi, rfl, hp, hhi, k⟩ := h
    have nd := scRight.nd
    refine ⟨_, (pss_cons (ps_set (i := 1) nd rfl (Or.inl rfl) (pe_call FM.ok (by exact hr.mono (by decide)) (by rfl) FM.m FM.k FM.b .nil pass0 (pa_cons (pv 0) (pa_cons (pe_op op_add pe_int (pe_call FD.ok (by exact hr.mono (by decide)) (by rfl) FD.m FD.k FD.b .nil pass0 (pa_cons (pv 0) (pa_cons pe_int pa_nil)))) (pa_cons (pe_op op_add pe_int (pe_call FD.ok (by exact hr.mono (by decide)) (by rfl) FD.m FD.k FD.b .nil pass0 (pa_cons (pv 0) (pa_cons pe_int pa_nil)))) pa_nil)))))
      (pss_cons (ps_set (i := 2) nd rfl (Or.inl rfl) (pe_call FM.ok (by exact hr.mono (by decide)) (by rfl) FM.m FM.k FM.b .nil pass0 (pa_cons (pv 0) (pa_cons (pe_op op_add pe_int (pe_call FD.ok (by exact hr.mono (by decide)) (by rfl) FD.m FD.k FD.b .nil pass0 (pa_cons (pv 0) (pa_cons pe_int pa_nil)))) (pa_cons pe_int pa_nil)))))
      (pss_cons (ps_par (i := 3) (j := 4) (by rfl) nd rfl rfl (by decide) rfl rfl (pa_cons (pe_call FD.ok (by exact hr.mono (by decide)) (by rfl) FD.m FD.k FD.b .nil pass0 (pa_cons (pv 0) (pa_cons pe_int pa_nil))) (pa_cons (pe_tup (pa_cons (pe_op op_sub (pe_call FD.ok (by exact hr.mono (by decide)) (by rfl) FD.m FD.k FD.b .nil pass0 (pa_cons (pv 0) (pa_cons pe_int pa_nil))) pe_int) (pa_cons (pe_op op_sub (pe_call FD.ok (by exact hr.mono (by decide)) (by rfl) FD.m FD.k FD.b .nil pass0 (pa_cons (pv 0) (pa_cons pe_int pa_nil))) pe_int) pa_nil))) pa_nil)) (by rfl))
      (pss_cons (ps_if (pt_cmpR op_eq (pv 3) pe_int (nomark _)) (pss_one (ps_set (i := 2) nd rfl (Or.inl rfl) (pv 1))) pss_nil)
      (pss_cons (ps_if (pt_cmpR op_eq (pv 3) pe_int (nomark _)) (pss_one (ps_set (i := 2) nd rfl (Or.inl rfl) (pe_tup (pa_cons (pe_ix ix_tup (pv 1) pe_int (fun _ _ => rfl)) (pa_cons (pe_ix ix_tup (pv 1) pe_int (fun _ _ => rfl)) (pa_cons (pe_ix ix_tup (pv 1) pe_int (fun _ _ => rfl)) (pa_cons (pe_call FW.ok (by exact hr.mono (by decide)) (by rfl) FW.m FW.k FW.b .nil pass0 (pa_cons (pv 0) (pa_cons (pe_callB call_len (by rfl) B.len boot_len (pa_cons (pe_ix ix_tup (pv 1) pe_int (fun _ _ => rfl)) pa_nil)) (pa_cons pe_int pa_nil)))) pa_nil))))))) pss_nil)
      (pss_cons (ps_set (i := 5) nd rfl (Or.inl rfl) (pe_lst (pa_cons (pv 1) (pa_cons (pv 2) pa_nil))))
      (pss_cons (ps_if (PW.pt (pw_or (pt_not (pt_val (pe_callG GS (by exact hr) hG (by rfl) mS kS bS .nil pass0 (pa_cons (pv 0) (pa_cons (pv 5) (pa_cons (pe_tup (pa_cons pe_int (pa_cons (pe_un un_neg pe_int) pa_nil))) pa_nil)))))) (pw_or1 (pt_not (pt_val (pe_callG GS (by exact hr) hG (by rfl) mS kS bS .nil pass0 (pa_cons (pv 0) (pa_cons (pv 5) (pa_cons (pv 4) pa_nil))))))))) (pss_one (ps_ret pe_bl)) pss_nil)
      (pss_one (ps_ret (pe_and (pe_callG GP (by exact hr) hG (by rfl) mP kP bP .nil pass0 (pa_cons (pv 0) (pa_cons (pv 5) pa_nil))) (pe_one (pe_callG GP (by exact hr) hG (by rfl) mP kP bP .nil pass0 (pa_cons (pv 0) (pa_cons (pv 5) pa_nil)))))))))))))), ?_⟩
    have z2 : 2 ≤ sizeLine := by decide
    have z4 : 4 ≤ sizeLine := by decide
    refine ⟨_, rfl, _, rfl, p, hi, 2, rfl, hp, by omega, by decide, by decide, fun d1 H1 a1 b1 k1 p1 => ⟨_, _, rfl, rfl, _, rfl, p, _, 2, rfl, p1, by omega, by decide, by decide, fun d2 H2 a2 b2 k2 p2 => ⟨_, _, rfl, rfl, ?_⟩⟩⟩
    refine ⟨p, _, (1 + d1).toNat, 1 + d2, by rw [show (((1 + d1).toNat : Nat) : Int) = 1 + d1 by omega]; rfl, p2, by omega, by omega, by omega, by omega, by omega, fun L H3 q1 hB hF k3 p3 nq1 dq1 => ?_⟩
    obtain ⟨m, hm⟩ : ∃ m, m = (1 + d1).toNat := ⟨_, rfl⟩
    rw [← hm] at hB
    have hm2 : m ≤ 2 := by omega
    have k03 := (k1.trans k2).trans k3
    dsimp only [gName]
    -- the other rule
    refine ⟨_, rfl, _, rfl, p, _, 2, rfl, p3, by omega, by decide, by decide, fun d3 H4 a3 b3 k4 p4 => ⟨_, _, rfl, rfl, ?_⟩⟩
    refine ⟨p, _, (1 + d3).toNat, 1, by rw [show (((1 + d3).toNat : Nat) : Int) = 1 + d3 by omega]; rfl, p4, by omega, by omega, by omega, by omega, by omega, fun M H5 q2 hB2 hF2 k5 p5 nq2 dq2 => ?_⟩
    have dq15 := dp_keep ((k4.keepT p3).trans (k5.keepT p4)) (lawD_tup L) dq1
    have k05 := (k03.trans k4).trans k5
    dsimp only [gName]
    -- the way and the factors
    refine ⟨_, rfl, p, _, 3, rfl, p5, by omega, by decide, by decide, fun way H6 a6 b6 k6 p6 => ?_⟩
    refine ⟨_, rfl, p, _, 3, rfl, p6, by omega, by decide, by decide, fun e1 H7 a7 b7 k7 p7 => ⟨_, _, rfl, rfl, ?_⟩⟩
    refine ⟨_, rfl, p, _, 3, rfl, p7, by omega, by decide, by decide, fun e2 H8 a8 b8 k8 p8 => ⟨_, _, rfl, rfl, z2, fun t nt => ⟨_, _, rfl, ?_⟩⟩⟩
    dsimp only
    have st := same_new (o := .tup [V.int (e1 - 1), V.int (e2 - 1)]) nt
    have kT58 : KeepT H5 H8 := (k6.keepT p5).trans ((k7.keepT p6).trans (k8.keepT p7))
    have dq19 := dp_same st (dp_keep kT58 (lawD_tup L) dq15)
    have dq29 := dp_same st (dp_keep kT58 (lawD_tup M) dq2)
    have ht : SqT K (upd H8 t (.tup [V.int (e1 - 1), V.int (e2 - 1)])) t [.int (e1 - 1), .int (e2 - 1)] := SqT.of upd_same
    have p9 := p8.same st
    have k09 : Kept p H (upd H8 t (.tup [V.int (e1 - 1), V.int (e2 - 1)])) := (((k05.trans k6).trans k7).trans k8).trans (Same.kept st)
    generalize (upd H8 t (.tup [V.int (e1 - 1), V.int (e2 - 1)])) = H9 at *
    -- the same rule twice
    refine seq_join (I := fun σ H' => ∃ (q : Addr) (N : LR), σ = [some (.ref p), some (.ref q1), some (.ref q), some (.int way), some (.ref t), none] ∧ H' = H9 ∧ (∃ n, n ≤ 2 ∧ LRB N n 5) ∧ FitsL N.even N.heads ∧ Dp K H9 (.ref q) (lawD N)) ?_ fun D' hD' => ?_
    rotate_left
    · refine ⟨_, rfl, rfl, _, rfl, ?_⟩
      by_cases h0 : way = 0
      · refine iteT' (by rw [h0]; rfl) ⟨_, rfl, hD' _ _ ⟨q1, L, rfl, rfl, ⟨m, hm2, hB⟩, hF, dq19⟩⟩
      · refine iteF' (by rw [int_dec, decide_eq_false h0]) (hD' _ _ ⟨q2, M, rfl, rfl, ⟨_, by omega, hB2⟩, hF2, dq29⟩)
    rintro σ H' ⟨q, N, rfl, eH, hN, hNF, dN⟩
    rw [eH]
    clear eH H'
    -- another row that tells
    refine seq_join (I := fun σ H' => ∃ (q : Addr) (N : LR), σ = [some (.ref p), some (.ref q1), some (.ref q), some (.int way), some (.ref t), none] ∧ Kept p H9 H' ∧ Purse H' p (hi + 260) ∧ (∃ n, n ≤ 2 ∧ LRB N n 5) ∧ FitsL N.even N.heads ∧ Dp K H' (.ref q) (lawD N)) ?_ fun D' hD' => ?_
    rotate_left
    · refine ⟨_, rfl, rfl, _, rfl, ?_⟩
      by_cases h1 : way = 1
      · refine iteT' (by rw [h1]; rfl) ?_
        obtain ⟨_, v1, v2, v3, v4, ec, hq, w1, w2, w3, w4⟩ := dp_law dq19
        cases ec
        obtain ⟨hc, rfl, hhc⟩ := dp_row w3
        refine ⟨_, rfl, q1, _, 0, v1, rfl, rfl, hq, rfl, _, rfl, q1, _, 1, v2, rfl, rfl, hq, rfl, _, rfl, q1, _, 2, .ref hc, rfl, rfl, hq, rfl, _, rfl, _, rfl, q1, _, 2, .ref hc, rfl, rfl, hq, rfl, _, _, rfl, .inr ⟨_, hhc, rfl⟩, ?_⟩
        have hhl : (L.heads.map V.int).length = m := by rw [List.length_map, hB.h.1]
        rw [hhl]
        refine ⟨p, _, (m : Int), 1, rfl, p9, by omega, by omega, by omega, by decide, by decide, fun r H10 qr hrl hrz k10 p10 nqr hqr => ⟨z4, fun q3 nq3 => ?_⟩⟩
        have s3 := same_new (o := .tup [v1, v2, .ref hc, .ref qr]) nq3
        have kT := k10.keepT p9
        have hrl2 : r.length = m := by omega
        refine hD' _ _ ⟨q3, { L with told := r }, rfl, k10.trans (Same.kept s3), (p10.same s3).wide (by omega), ⟨m, hm2, hB.few, hB.bits, hB.e, hB.o, hB.er, hB.or, hB.h, hrl2, fun z hz => ?_⟩, hF, .tup (SqT.of upd_same) (.cons (dp_same s3 (dp_keep kT (rowsD_tup _) w1)) (.cons (dp_same s3 (dp_keep kT (rowsD_tup _) w2)) (.cons (row_dp (same_tup s3 (tup_keepT kT hhc))) (.cons (row_dp (SqT.of (s3 _ _ hqr))) .nil))))⟩
        have h1 := hrz z hz
        have h2 : (1 : Int).toNat = 1 := rfl
        omega
      · refine iteF' (by rw [int_dec, decide_eq_false h1]) (hD' _ _ ⟨q, N, rfl, Kept.refl _ _, p9.wide (by omega), hN, hNF, dN⟩)
    clear hN hNF dN
    rintro σ H11 ⟨q, N, rfl, k11, p11, hN, hNF, dN⟩
    have dq11 := dp_keep (k11.keepT p9) (lawD_tup L) dq19
    have ht11 := tup_keepT (k11.keepT p9) ht
    -- the rules
    refine ⟨_, rfl, _, rfl, z2, fun l nl => ?_⟩
    have sl := same_new (o := .lst [V.ref q1, V.ref q]) nl
    have hT : Two L N := ⟨⟨m, hm2, hB⟩, hN, hF, hNF⟩
    have hLs : LawsD K (upd H11 l (.lst [V.ref q1, V.ref q])) l [L, N] := ⟨[q1, q], upd_same, .cons (dp_same sl dq11) (.cons (dp_same sl dN) .nil)⟩
    have ht12 := same_tup sl ht11
    have p12 := p11.same sl
    have k012 : Kept p H (upd H11 l (.lst [V.ref q1, V.ref q])) := (k09.trans k11).trans (Same.kept sl)
    generalize (upd H11 l (.lst [V.ref q1, V.ref q])) = H12 at *
    dsimp only [gName]
    -- claims without a limit
    unfold tSeq tIfS tOr tNot
    refine ⟨_, rfl, _, rfl, _, rfl, z2, fun u nu => ?_⟩
    have su := same_new (o := .tup [V.int 1, V.int (-1)]) nu
    refine ⟨p, l, u, _, L, N, 1, -1, rfl, p12.same su, by omega, hLs.same su, hT, SqT.of upd_same, by decide, by decide, fun H13 k13 p13 => ⟨_, rfl, iteF' (by rfl) ?_⟩⟩
    have hLs13 := (hLs.same su).kept k13 (p12.same su)
    refine ⟨_, rfl, _, rfl, _, rfl, ?_⟩
    refine ⟨p, l, t, _, L, N, e1 - 1, e2 - 1, rfl, p13, by omega, hLs13, hT, tup_keepT (k13.keepT (p12.same su)) (same_tup su ht12), by omega, by omega, fun H14 k14 p14 => ⟨_, rfl, iteF' (by rfl) ?_⟩⟩
    have hLs14 := hLs13.kept k14 p13
    dsimp only [tNext]
    -- partings
    refine ⟨_, rfl, _, rfl, p, l, _, L, N, rfl, p14, by omega, hLs14, hT, fun H15 k15 p15 => ⟨_, rfl, iteT' rfl ?_⟩⟩
    refine ⟨_, rfl, _, rfl, p, l, _, L, N, rfl, p15, by omega, hLs14.kept k15 p14, hT, fun H16 k16 p16 => ?_⟩
    exact k _ (((((k012.trans (Same.kept su)).trans k13).trans k14).trans k15).trans k16) (p16.wide (by omega))
end
end L2.EH
end S_U10
section S_U11
set_option exponentiation.threshold 30000
set_option maxRecDepth 100000
set_option maxHeartbeats 4000000
namespace L2.EH
open PySem PySem.Spec PyProof.Rows StX
theorem cut_intsC (ns : List Int) (lo hi : Option Int) : ∃ ms : List Int, cutV (ns.map V.int) lo hi = ms.map V.int :=
  ⟨(ns.drop (HT.sIx (ns.map V.int).length 0 lo)).take (HT.sIx (ns.map V.int).length (ns.map V.int).length hi - HT.sIx (ns.map V.int).length 0 lo), by unfold cutV; rw [List.map_take, List.map_drop]⟩
section
variable {P : Program} {w : World} {K : PySem.W.Frag} {mg : Str → Option Value} {base : Heap}
theorem ok_cell {f : Addr} {fd : FuncData} (F : Fun K "_law_cell" "_law_cell" sCell f fd) (B : BN mg) : FnOk P w K mg base CX0 1 f fd ["_law_cells", "_law_spot"] (spCell K) := by
  refine F.ok scCell (fun vs H Q E h => ?_) (fun cdv A outer s H vs Q E hr h => ?_)
  · obtain ⟨a, ns, k, rfl, _⟩ := h
    rfl
  · obtain ⟨a, ns, k, rfl, ha, hl, hk, q⟩ := h
    have nd := scCell.nd
    refine ⟨_, pss_cons (ps_if (pt_cmpR op_lt (pv 1) (pe_callB call_len (by rfl) B.len boot_len (pa_cons (pv 0) pa_nil)) (nomark _)) (pss_one (ps_ret (pe_ix ix_list (pv 0) (pv 1) (fun _ _ => rfl)))) pss_nil)
      (pss_cons (ps_set (i := 2) nd rfl (Or.inl rfl) (pe_op op_add (pe_op op_mul (pe_op op_mul pe_int (pe_op op_add (pv 1) pe_int)) (pe_op op_add (pv 1) pe_int)) pe_int))
      (pss_cons (ps_for PassesOwn.never rfl (pi_list (pe_slice sl_list (pv 0) po_none (po_some pe_int))) (pg_name (i := 3) nd rfl (Or.inl rfl))
        (pss_one (ps_set (i := 2) nd rfl (Or.inl rfl) (pe_op op_mod (pe_callTy call_int1 (by rfl) B.int (by decide +kernel) (pa_cons (pe_op op_add (pe_op op_add (pe_op op_mul (pv 2) pe_int) (pe_op op_mod (pe_callTy call_int1 (by rfl) B.int (by decide +kernel) (pa_cons (pv 3) pa_nil)) pe_int)) pe_int) pa_nil)) pe_int))))
      (pss_one (ps_ret (pv 2))))), ?_⟩
    refine ⟨_, rfl, _, rfl, _, _, rfl, .inl ⟨_, ha, rfl⟩, _, _, rfl, rfl, _, rfl, ite2 (fun h => ?_) fun h => ?_⟩
    · have hlt : k < ns.length := by
        have z := of_decide_eq_true h
        rw [List.length_map] at z
        omega
      have e1 : (ns.map V.int)[k]? = some (V.int ns[k]) := by rw [List.getElem?_map, List.getElem?_eq_getElem hlt]; rfl
      exact ⟨_, rfl, _, rfl, a, _, _, _, rfl, rfl, ha, atI_nat e1, q _ H (Same.refl H)⟩
    · refine ⟨_, rfl, _, _, rfl, rfl, _, _, rfl, rfl, .inl ⟨by decide, by decide⟩, _, rfl, _, _, rfl, rfl, _, _, rfl, rfl, .inr ⟨by omega, by omega⟩, _, _, rfl, rfl, ?_⟩
      have hz : 0 ≤ 40503 * ((k : Int) + 3) * ((k : Int) + 11) + 617 ∧ 40503 * ((k : Int) + 3) * ((k : Int) + 11) + 617 < 2 ^ 40 := by
        have h1 : 0 ≤ 40503 * ((k : Int) + 3) := by omega
        have h2 : 40503 * ((k : Int) + 3) ≤ 40503 * 103 := by omega
        have h3 : 40503 * ((k : Int) + 3) * ((k : Int) + 11) ≤ 40503 * 103 * 111 := Int.mul_le_mul h2 (by omega) (by omega) (by decide)
        have h4 : 0 ≤ 40503 * ((k : Int) + 3) * ((k : Int) + 11) := Int.mul_nonneg h1 (by omega)
        have e : (2 : Int) ^ 40 = 1099511627776 := by decide
        omega
      refine ⟨_, rfl, _, rfl, a, _, rfl, ha, fun p np => ?_⟩
      obtain ⟨ms, hms⟩ := cut_intsC ns none (some 4)
      refine ⟨p, rfl, ⟨_, SqL.of upd_same⟩, for_list (K := K) (a := p) (xs := cutV (ns.map V.int) none (some 4)) (fun i σ H' => H' = upd H p (.lst (cutV (ns.map V.int) none (some 4))) ∧ ∃ (z : Int) (x : Option V), 0 ≤ z ∧ z < 2 ^ 40 ∧ σ = [some (.ref a), some (.int (k : Int)), some (.int z), x]) ?_ ?_ ?_ ?_⟩
      · exact ⟨rfl, _, none, hz.1, hz.2, rfl⟩
      · rintro i σ H' _ ⟨rfl, _⟩
        exact SqL.of upd_same
      · rintro i x σ H' hx ⟨rfl, z, y, hz, hz2, rfl⟩
        rw [hms, List.getElem?_map] at hx
        cases e : ms[i]? with
        | none => rw [e] at hx; cases hx
        | some n =>
          rw [e] at hx
          cases hx
          have hb : (-(2 ^ 64 : Int)) < z ∧ z < 2 ^ 64 := by
            have e : (2 : Int) ^ 40 = 1099511627776 := by decide
            constructor <;> omega
          have hm : ∀ y : Int, 0 ≤ y % 2147483549 ∧ y % 2147483549 < 2 ^ 40 := fun y => ⟨Int.emod_nonneg _ (by decide), Int.lt_trans (Int.emod_lt_of_pos y (by decide : (0 : Int) < 2147483549)) (by decide)⟩
          refine ⟨_, rfl, _, _, rfl, rfl, .inl hb, _, rfl, .inl ⟨_, rfl, _, _, rfl, rfl, (by show (0 : Int) < 2147483549; decide), _, _, rfl, rfl, _, _, rfl, rfl, .inl ⟨_, rfl, _, _, rfl, rfl, (by show (0 : Int) < 2147483549; decide), rfl, _, _, (hm _).1, (hm _).2, rfl⟩⟩⟩
      · rintro σ H' ⟨rfl, z, y, hz, hz2, rfl⟩
        exact ⟨_, rfl, q z _ (fun b o e => by rw [upd_ne (ne_of_none e np)]; exact e)⟩
end

/-! ### the law -/
def spLaw (K : PySem.W.Frag) : Sp := fun vs H Q _ => ∃ (a : Addr) (ns : List Int), vs = [.ref a] ∧ SqL K H a (ns.map V.int) ∧ ns.length ≤ 63 ∧ ∀ H', Q (.bl true) H'
theorem scLaw : FnScope ["_law_cells", "_law_spot", "_law_source_here", "_law_turn"] ["_law_cells"] (defScope sLaw) := ⟨rfl, rfl, rfl, by decide +kernel, rfl, by decide +kernel, by decide +kernel⟩
section
variable {P : Program} {w : World} {K : PySem.W.Frag} {mg : Str → Option Value} {base : Heap}
theorem ok_law {f fC fS fR : Addr} {fd fdC fdS fdR : FuncData} (F : Fun K "law" "law" sLaw f fd) (B : BN mg) (Ce : Fn' P w K mg base 1 "_law_cell" fC fdC ["_law_cells", "_law_spot"] (spCell K))
    (So : Fn' P w K mg base 1 "_law_source" fS fdS ["_law_cell_here"] spSource) (GR : FnG P w K mg base CX0 12 fR fdR ["_law_source_here"] (spRightL K)) (mR : mg "_law_right" = some (.ref fR)) (kR : PySem.W.keepIn K (.ref fR) = true) (bR : Binds K fdR ["_law_source_here"] []) :
    FnG P w K mg base CX0 13 f fd ["_law_cells"] (spLaw K) := by
  refine Fun.okG F scLaw (fun vs H Q E h => ?_) (fun cdv A outer s H vs Q E hr hG h => ?_)
  · obtain ⟨a, ns, rfl, _⟩ := h
    rfl
  · obtain ⟨a, ns, rfl, ha, hl, k⟩ := h
    have nd := scLaw.nd
    refine ⟨_, (pss_cons (ps_for PassesOwn.never rfl (pi_range1 (by rfl) B.range (pa_cons (pe_callB (call_max2 rfl) (by rfl) B.max (by decide +kernel) (pa_cons pe_int (pa_cons (pe_callB (call_min2 rfl) (by rfl) B.min (by decide +kernel) (pa_cons (pe_callB call_len (by rfl) B.len boot_len (pa_cons (pv 0) pa_nil)) (pa_cons pe_int pa_nil))) pa_nil))) pa_nil)) (pg_name (i := 1) nd rfl (Or.inl rfl)) (pss_cons (ps_set (i := 2) nd rfl (Or.inr rfl) (pe_call So.ok (by exact hr.mono (by decide)) (by rfl) So.m So.k So.b .nil pass0 (pa_cons (pe_call Ce.ok (by exact hr.mono (by decide)) (by rfl) Ce.m Ce.k Ce.b .nil pass0 (pa_cons (pv 0) (pa_cons (pv 1) pa_nil))) pa_nil)))
      (pss_one (ps_if (pt_not (pt_val (pe_callB (cr_all rfl) (by rfl) B.all (by decide +kernel) (pa_cons (pe_lc (own := [("_law_turn", 3)]) (g := gName 3) (tt := tYes) rfl nd (pi_range1 (by rfl) B.range (pa_cons pe_int pa_nil)) (blkOk_by (own := [("_law_turn", 3)]) (N := ["_law_cells", "_law_spot", "_law_source_here", "_law_turn"]) (sc := (defScope sLaw)) (by decide +kernel))
        (fun _ _ _ _ _ => pg_name (i := 3) nd rfl (Or.inl rfl) (Or.inr rfl)) (fun _ _ _ _ _ => pts_nil)
        (fun _ _ _ _ _ => (pe_callG GR (by exact hr) hG (by rfl) mR kR bR .nil pass0 (pa_cons (pv 2) pa_nil)))) pa_nil)))) (pss_one (ps_ret pe_bl)) pss_nil))))
      (pss_one (ps_ret pe_bl))), ?_⟩
    have few : ∀ z : Int, 0 ≤ z → z ≤ 63 → ∃ n : Nat, n ≤ 5 ∧ (if (if (5 : Int) < z then (5 : Int) else z) > 2 then (if (5 : Int) < z then (5 : Int) else z) else 2) = (n : Int) := fun z hz hz2 => by
      by_cases h4 : (5 : Int) < z
      · rw [if_pos h4]; exact ⟨5, by omega, by rw [if_pos (by omega)]; rfl⟩
      · rw [if_neg h4]
        by_cases h2 : z > 2
        · rw [if_pos h2]; exact ⟨z.toNat, by omega, by omega⟩
        · rw [if_neg h2]; exact ⟨2, by omega, rfl⟩
    obtain ⟨n, hn4, hn⟩ := few (((ns.map V.int).length : Nat) : Int) (by omega) (by rw [List.length_map]; omega)
    refine ⟨_, rfl, _, _, rfl, .inl ⟨_, ha, rfl⟩, _, _, rfl, _, _, rfl, ?_⟩
    show ∃ j : Int, [V.int (if (if (5 : Int) < (((ns.map V.int).length : Nat) : Int) then (5 : Int) else (((ns.map V.int).length : Nat) : Int)) > 2 then (if (5 : Int) < (((ns.map V.int).length : Nat) : Int) then (5 : Int) else (((ns.map V.int).length : Nat) : Int)) else 2)] = [.int j] ∧ _
    rw [hn]
    refine ⟨(n : Int), rfl, by omega, by omega, ?_⟩
    have en : ((n : Int)).toNat = n := by omega
    rw [en]
    refine for_it (walk_range (lo := 0) (n := n)) (fun i σ H' => Same H H' ∧ ∃ y1 y2, σ = [some (.ref a), y1, y2, none]) ⟨Same.refl _, _, _, rfl⟩ (fun _ _ _ _ _ => trivial) ?_ ?_
    · rintro i x σ H0 Hc hi ⟨s0, y1, y2, rfl⟩ ⟨rfl, rfl⟩
      have eI : ((0 : Int) + (i : Nat)) = (i : Int) := by omega
      show gName 1 (V.int (0 + (i : Nat))) _ _ _
      rw [eI]
      refine ⟨_, rfl, _, rfl, a, ns, i, rfl, s0.seq ha, hl, by omega, fun z H1 s1 => ⟨z, rfl, fun p m f np hm hm2 hf => ?_⟩⟩
      have s01 := s0.trans s1
      have sp := same_new (o := .lst [V.int m, V.int f, V.int 0]) np
      have pur : Purse (upd H1 p (.lst [V.int m, V.int f, V.int 0])) p 0 := ⟨m, f, 0, upd_same, hm, hm2, hf, by decide, by decide⟩
      have nHp : H p = none := s01.free np
      have s02 := s01.trans sp
      generalize (upd H1 p (.lst [V.int m, V.int f, V.int 0])) = H2 at *
      dsimp only [gName]
      refine ⟨_, rfl, by decide, by decide, fun D nD => ?_⟩
      have nHD : H D = none := s02.free nD
      have Dp' : D ≠ p := fun e => by obtain ⟨_, _, _, h1, _⟩ := pur; rw [← e, nD] at h1; cases h1
      refine lc_out (walk_range (lo := 0) (n := 3)) (fun j Hd => Hd D = some (.lst (((List.range j).map fun _ => true).map V.bl)) ∧ Kept p H2 Hd ∧ Purse Hd p (2700 * j)) ⟨upd_same, Same.kept (same_new nD), pur.upd Dp'⟩ (fun _ _ _ _ => trivial) ?_ ?_
      · rintro j x H00 Hd hj ⟨hD, kd, pd⟩ ⟨rfl, rfl⟩
        refine ⟨rfl, _, rfl, p, _, rfl, pd, by omega, fun H7 k7 p7 => ?_⟩
        have hD7 := k7 _ _ Dp' hD
        refine ⟨_, hD7, small1000 (by simp; omega), ?_, fun b o hb ho => ?_, (p7.upd Dp').wide (by omega)⟩
        · rw [upd_same, List.range_succ, List.map_append, List.map_append]; rfl
        · rw [upd_ne (ne_of_none ho nD)]
          exact k7 b o hb (kd b o hb ho)
      · rintro Hd ⟨hD, kd, pd⟩
        refine ⟨D, _, rfl, SqL.of hD, ?_⟩
        refine ⟨_, rfl, iteF' (by rfl) ⟨fun b o hb => kd b o (ne_of_none hb nHp) (s02 b o hb), _, _, rfl⟩⟩
    · rintro σ Hc ⟨s0, y1, y2, rfl⟩
      exact k Hc
end
end L2.EH
end S_U11
section S_M4
set_option maxRecDepth 100000
set_option maxHeartbeats 0
namespace L2.EH
open PySem PySem.Spec PyProof.Rows L2 StX
/-! ### the head's facts as structures -/
theorem fun_bindsA {K : PySem.W.Frag} {x qual : Str} {st : Stmt} {f : Addr} {fd : FuncData} {ps : List Str} (F : Fun K x qual st f fd)
    (h : ∀ (kV doc pm : Value) (an : Option Addr) (cdv ct : Value) (us : List Value), us.length = ps.length → bindArgs (PySem.W.fnOf x qual (defArgs st) (defBody st) (defScope st) .none kV doc pm an cdv ct) ⟨us, []⟩ = pure (ps.zip us)) (s : Shared) (us : List Value) (hl : us.length = ps.length) :
    BindsTo s fd ⟨us, []⟩ (ps.zip us) := by
  obtain ⟨oc, od, kV, doc, pm, an, cdv, ct, osl, rfl, lk, hcd⟩ := F.ex
  exact .of_eq (h kV doc pm an cdv ct us hl)
section
variable {K : PySem.W.Frag} {h : Heap} {mg : Str → Option Value} {w : World}
theorem ex_three (c : SaysP exB fnAll K) : (frees.all fun x => (He.Fa.free x).ok K) = true ∧ ((globs (fnA ++ fnB)).all fun x => (He.Fa.glo x).ok K) = true ∧ (factsB K).all id = true := by
  have e := c.ex
  unfold exB at e
  obtain ⟨e1, e2⟩ := Bool.and_eq_true_iff.mp e
  obtain ⟨e3, e4⟩ := Bool.and_eq_true_iff.mp e2
  exact ⟨e1, e3, e4⟩
theorem h_free (X : K.In h) (G : h.Ns mainGlobals mg) (c : SaysP exB fnAll K) {x : Str} (hx : x ∈ frees) : mg x = none := He.free_ok X G (List.all_eq_true.mp (ex_three c).1 x hx)
theorem h_glob (X : K.In h) (G : h.Ns mainGlobals mg) (c : SaysP exB fnAll K) {x : Str} (hx : x ∈ globs (fnA ++ fnB)) : mg x = some (.ref (He.ga K x)) := He.glo_ok X G (List.all_eq_true.mp (ex_three c).2.1 x hx)
theorem h_fact (c : SaysP exB fnAll K) (i : Nat) {b : Bool} (hb : (factsB K)[i]? = some b) : b = true := List.all_eq_true.mp (ex_three c).2.2 b (List.mem_of_getElem? hb)
/-- all that the head tells of names -/
structure HF (K : PySem.W.Frag) (w : World) (mg : Str → Option Value) : Prop where
  b : BN mg
  gcd : mg "gcd" = some (.builtin "math.gcd")
  lcm : mg "lcm" = some (.builtin "math.lcm")
  plain : ∃ t, mg "PLAIN_LINES" = some (.int 100 t)
  span : ∃ t, mg "SPAN" = some (.int 200 t)
  related : ∃ t, mg "RELATED" = some (.int 6 t)
  g : mg "PlainRule" = some (.ref (He.ga K "PlainRule"))
  t : PlainC K (He.ga K "PlainRule")
  mkr : Mk K (He.ga K "PlainRule") (mth "PlainRule" "__init__" K)
  c : mg "CHECKS" = some (.ref (He.ga K "CHECKS"))
  th : mg "THINGS" = some (.ref (He.ga K "THINGS"))
  dc : ∃ es n, KDict K w (He.ga K "CHECKS") es n
  kc : KDct K w (He.ga K "CHECKS") "relation" (.ref (He.ga K "is_relation"))
  kt : KDct K w (He.ga K "THINGS") "relation" (.int ((2 : Nat) : Int))
  kcs : KDct K w (He.ga K "CHECKS") "same" (.ref (He.ga K "is_same"))
  kts : KDct K w (He.ga K "THINGS") "same" (.int ((2 : Nat) : Int))
  kcp : KDct K w (He.ga K "CHECKS") "parting" (.ref (He.ga K "is_parting"))
  ktp : KDct K w (He.ga K "THINGS") "parting" (.int ((3 : Nat) : Int))
  largest : ∃ t, mg "LARGEST" = some (.int BIG t)
  z : mg "ZERO" = some (.ref (He.ga K "ZERO"))
  kz : KPair K (He.ga K "ZERO") 0 1
theorem pair_ok {x : Str} {a b : Int} (h : pairAt K x a b = true) : KPair K (He.ga K x) a b := by
  unfold pairAt at h
  split at h
  · rename_i od its n sl hl
    split at h
    · rename_i i t j u hi
      obtain ⟨h1, h2⟩ := Bool.and_eq_true_iff.mp h
      obtain rfl := of_decide_eq_true h1
      obtain rfl := of_decide_eq_true h2
      intro H
      have hs : its.size = 2 := by rw [← Array.length_toList, hi]; rfl
      exact .inr ⟨_, its, n, hl, rfl, rfl, by rw [hs]; decide, by rw [hi]; exact .cons ⟨t, rfl⟩ (.cons ⟨u, rfl⟩ .nil)⟩
    · cases h
  · cases h
theorem kref_ok {x y z : Str} (dC : ∃ es n, KDict K w (He.ga K x) es n) (h : refB K x y z = true) : KDct K w (He.ga K x) y (.ref (He.ga K z)) := by
  obtain ⟨es, n, D⟩ := dC
  exact ⟨es, n, _, D.at_, D.lit, He.eqO_ok h, rfl⟩
theorem knum_ok {x y : Str} {i : Int} (dT : ∃ es n, KDict K w (He.ga K x) es n) (h : numB K x y i = true) : KDct K w (He.ga K x) y (.int i) := by
  obtain ⟨es, n, D⟩ := dT
  unfold numB at h
  cases e : PySem.W.nsIn K (He.ga K x) y with
  | none => rw [e] at h; cases h
  | some r =>
    cases r with
    | none => rw [e] at h; cases h
    | some u =>
      cases u with
      | int j t =>
        rw [e] at h
        obtain rfl : j = i := of_decide_eq_true h
        exact ⟨es, n, _, D.at_, D.lit, e, ⟨t, rfl⟩⟩
      | _ => rw [e] at h; cases h
theorem mro_ok (h : mroB K = true) : PySem.W.mroIn K (He.ga K "PlainRule") (.type "object") = some true := by
  unfold mroB at h
  split at h
  · assumption
  · cases h
theorem hf (X : K.In h) (G : h.Ns mainGlobals mg) (cl : SaysL exB fnAll tabs w K) : HF K w mg := by
  have c := cl.p
  have dC := cl.tab 0 rfl
  have dT := cl.tab 1 rfl
  exact {
    b := ⟨h_free X G c (by decide +kernel), h_free X G c (by decide +kernel), h_free X G c (by decide +kernel), h_free X G c (by decide +kernel), h_free X G c (by decide +kernel), h_free X G c (by decide +kernel), h_free X G c (by decide +kernel), h_free X G c (by decide +kernel), h_free X G c (by decide +kernel), h_free X G c (by decide +kernel), h_free X G c (by decide +kernel), h_free X G c (by decide +kernel), h_free X G c (by decide +kernel), h_free X G c (by decide +kernel), h_free X G c (by decide +kernel), h_free X G c (by decide +kernel), h_free X G c (by decide +kernel), h_free X G c (by decide +kernel), h_free X G c (by decide +kernel), h_free X G c (by decide +kernel)⟩
    gcd := PySem.W.mg_of X G (He.eqO_ok (h_fact c 0 (b := He.eqO (PySem.W.nsIn K mainGlobals "gcd") (some (some (.builtin "math.gcd")))) rfl))
    lcm := PySem.W.mg_of X G (He.eqO_ok (h_fact c 1 (b := He.eqO (PySem.W.nsIn K mainGlobals "lcm") (some (some (.builtin "math.lcm")))) rfl))
    plain := He.int_ok X G (h_fact c 2 (b := intB K "PLAIN_LINES" 100) rfl)
    span := He.int_ok X G (h_fact c 3 (b := intB K "SPAN" 200) rfl)
    related := He.int_ok X G (h_fact c 4 (b := intB K "RELATED" 6) rfl)
    g := He.glo_ok X G (h_fact c 5 (b := (He.Fa.glo "PlainRule").ok K) rfl)
    t := ⟨He.cls_ok (h_fact c 6 (b := (He.Fa.cls "PlainRule").ok K) rfl), He.noat_ok (h_fact c 7 (b := (He.Fa.noat "PlainRule" "halves").ok K) rfl), He.noat_ok (h_fact c 8 (b := (He.Fa.noat "PlainRule" "starts").ok K) rfl), He.noat_ok (h_fact c 9 (b := (He.Fa.noat "PlainRule" "answer").ok K) rfl), mro_ok (h_fact c 20 (b := mroB K) rfl), He.eqO_ok (h_fact c 21 (b := He.eqO (PySem.W.findIn K (.ref (He.ga K "PlainRule")) "__eq__") (some (some (.builtin "object.__eq__")))) rfl)⟩
    mkr := He.mkr_ok (h_fact c 10 (b := (He.Fa.mkr "PlainRule").ok K) rfl)
    c := He.glo_ok X G (h_fact c 11 (b := (He.Fa.glo "CHECKS").ok K) rfl)
    th := He.glo_ok X G (h_fact c 12 (b := (He.Fa.glo "THINGS").ok K) rfl)
    dc := dC
    z := He.glo_ok X G (h_fact c 18 (b := (He.Fa.glo "ZERO").ok K) rfl)
    kz := pair_ok (h_fact c 19 (b := pairAt K "ZERO" 0 1) rfl)
    kc := by
      obtain ⟨es, n, D⟩ := dC
      exact ⟨es, n, _, D.at_, D.lit, He.eqO_ok (h_fact c 16 (b := He.eqO (PySem.W.nsIn K (He.ga K "CHECKS") "relation") (some (some (.ref (He.ga K "is_relation"))))) rfl), rfl⟩
    largest := He.int_ok X G (h_fact c 22 (b := intB K "LARGEST" ((10 : Int) ^ 300)) rfl)
    kcs := kref_ok dC (h_fact c 23 (b := refB K "CHECKS" "same" "is_same") rfl)
    kcp := kref_ok dC (h_fact c 24 (b := refB K "CHECKS" "parting" "is_parting") rfl)
    kts := knum_ok dT (h_fact c 25 (b := numB K "THINGS" "same" 2) rfl)
    ktp := knum_ok dT (h_fact c 26 (b := numB K "THINGS" "parting" 3) rfl)
    kt := by
      obtain ⟨es, n, D⟩ := dT
      have q := h_fact c 17 (b := (match PySem.W.nsIn K (He.ga K "THINGS") "relation" with | some (some (.int j _)) => decide (j = 2) | _ => false)) rfl
      cases e : PySem.W.nsIn K (He.ga K "THINGS") "relation" with
      | none => rw [e] at q; cases q
      | some r =>
        cases r with
        | none => rw [e] at q; cases q
        | some u =>
          cases u with
          | int j t =>
            rw [e] at q
            obtain rfl : j = 2 := of_decide_eq_true q
            exact ⟨es, n, _, D.at_, D.lit, e, ⟨t, rfl⟩⟩
          | _ => rw [e] at q; cases q }
end
end L2.EH
end S_M4
section S_M5
set_option maxRecDepth 100000
set_option maxHeartbeats 0
namespace L2.EH
open PySem PySem.Spec PyProof.Rows L2 StX
/-! ### from the head's facts to the law's promise -/
section
variable {P : Program} {w : World} {K : PySem.W.Frag} {h : Heap} {mg : Str → Option Value} {base : Heap}
theorem facts_law (X : K.In h) (G : h.Ns mainGlobals mg) {f : Addr} (hfa : mg ("law" : Str) = some (.ref f)) (cl : SaysL exB fnAll tabs w K) :
    ∃ fd : FuncData, (∀ (s : Shared) (v : Value), BindsTo s fd ⟨[v], []⟩ [("_law_cells", v)]) ∧ ∀ base : Heap, K.In base → base.Ns mainGlobals mg → FnG P w K mg base CX0 13 f fd ["_law_cells"] (spLaw K) := by
  have c := cl.p
  have T := hf X G cl
  obtain ⟨tP, hPl⟩ := T.plain
  obtain ⟨tS, hSp⟩ := T.span
  obtain ⟨tM, hRe⟩ := T.related
  obtain ⟨tL, hLa⟩ := T.largest
  obtain ⟨es1, n1, DC⟩ := T.dc
  obtain ⟨d_F_is_whole, F_is_whole⟩ := c.def_ 0 rfl
  obtain ⟨d_F_is_row_of, F_is_row_of⟩ := c.def_ 1 rfl
  obtain ⟨d_F_is_fraction, F_is_fraction⟩ := c.def_ 2 rfl
  obtain ⟨d_F_is_fraction_row, F_is_fraction_row⟩ := c.def_ 3 rfl
  obtain ⟨d_F_is_between, F_is_between⟩ := c.def_ 4 rfl
  obtain ⟨d_F_is_square, F_is_square⟩ := c.def_ 5 rfl
  obtain ⟨d_F_plain_in, F_plain_in⟩ := c.def_ 6 rfl
  obtain ⟨d_F_shared_row, F_shared_row⟩ := c.def_ 7 rfl
  obtain ⟨d_F_row_times, F_row_times⟩ := c.def_ 8 rfl
  obtain ⟨d_F_half_values, F_half_values⟩ := c.def_ 9 rfl
  obtain ⟨d_F_lowest_terms, F_lowest_terms⟩ := c.def_ 10 rfl
  obtain ⟨d_F_values_at_all, F_values_at_all⟩ := c.def_ 11 rfl
  obtain ⟨d_F_told_value, F_told_value⟩ := c.def_ 12 rfl
  obtain ⟨d_F_adds_up_to_0, F_adds_up_to_0⟩ := c.def_ 13 rfl
  obtain ⟨d_F_values_in_span, F_values_in_span⟩ := c.def_ 14 rfl
  obtain ⟨d_F_is_written_as_span, F_is_written_as_span⟩ := c.def_ 15 rfl
  obtain ⟨d_F_are_ascending, F_are_ascending⟩ := c.def_ 16 rfl
  obtain ⟨d_F_is_row_for, F_is_row_for⟩ := c.def_ 17 rfl
  obtain ⟨d_F_asked_numbers, F_asked_numbers⟩ := c.def_ 18 rfl
  obtain ⟨d_F_is_right, F_is_right⟩ := c.def_ 19 rfl
  obtain ⟨d_F_is_same, F_is_same⟩ := c.def_ 20 rfl
  obtain ⟨d_F_is_parting, F_is_parting⟩ := c.def_ 21 rfl
  obtain ⟨d_F_is_relation, F_is_relation⟩ := c.def_ 22 rfl
  obtain ⟨d_F_rules_in, F_rules_in⟩ := c.def_ 23 rfl
  obtain ⟨d_F_are_apart, F_are_apart⟩ := c.def_ 24 rfl
  obtain ⟨d_F_add_up_at, F_add_up_at⟩ := c.def_ 25 rfl
  obtain ⟨d_F_add_up_in_span, F_add_up_in_span⟩ := c.def_ 26 rfl
  obtain ⟨d_F_accepts, F_accepts⟩ := c.def_ 27 rfl
  obtain ⟨d_F_law_cell, F_law_cell⟩ := c.def_ 28 rfl
  obtain ⟨d_F_law_source, F_law_source⟩ := c.def_ 29 rfl
  obtain ⟨d_F_law_draw, F_law_draw⟩ := c.def_ 30 rfl
  obtain ⟨d_F_law_image, F_law_image⟩ := c.def_ 31 rfl
  obtain ⟨d_F_law_digits, F_law_digits⟩ := c.def_ 32 rfl
  obtain ⟨d_F_law_lines, F_law_lines⟩ := c.def_ 33 rfl
  obtain ⟨d_F_law_at, F_law_at⟩ := c.def_ 34 rfl
  obtain ⟨d_F_law_number, F_law_number⟩ := c.def_ 35 rfl
  obtain ⟨d_F_law_row, F_law_row⟩ := c.def_ 36 rfl
  obtain ⟨d_F_law_rule, F_law_rule⟩ := c.def_ 37 rfl
  obtain ⟨d_F_law_plain, F_law_plain⟩ := c.def_ 38 rfl
  obtain ⟨d_F_law_joint, F_law_joint⟩ := c.def_ 39 rfl
  obtain ⟨d_F_law_divisor, F_law_divisor⟩ := c.def_ 40 rfl
  obtain ⟨d_F_law_thin, F_law_thin⟩ := c.def_ 41 rfl
  obtain ⟨d_F_law_fraction, F_law_fraction⟩ := c.def_ 42 rfl
  obtain ⟨d_F_law_cleared, F_law_cleared⟩ := c.def_ 43 rfl
  obtain ⟨d_F_law_factors, F_law_factors⟩ := c.def_ 44 rfl
  obtain ⟨d_F_law_kept, F_law_kept⟩ := c.def_ 45 rfl
  obtain ⟨d_F_law_small, F_law_small⟩ := c.def_ 46 rfl
  obtain ⟨d_F_law_drawn_row, F_law_drawn_row⟩ := c.def_ 47 rfl
  obtain ⟨d_F_law_paper, F_law_paper⟩ := c.def_ 48 rfl
  obtain ⟨d_F_law_makes, F_law_makes⟩ := c.def_ 49 rfl
  obtain ⟨d_F_law_is_span, F_law_is_span⟩ := c.def_ 50 rfl
  obtain ⟨d_F_law_sums, F_law_sums⟩ := c.def_ 51 rfl
  obtain ⟨d_F_law_span_right, F_law_span_right⟩ := c.def_ 52 rfl
  obtain ⟨d_F_law_parting_right, F_law_parting_right⟩ := c.def_ 53 rfl
  obtain ⟨d_F_law_right, F_law_right⟩ := c.def_ 54 rfl
  obtain ⟨d_F_law, F_law⟩ := c.def_ 55 rfl
  obtain ⟨d_F_init, F_init⟩ := c.def_ 56 rfl
  have e := hfa.symm.trans (h_glob X G c (x := "law") (by decide +kernel))
  cases e
  refine ⟨d_F_law, fun s v => fun_bindsA (ps := ["_law_cells"]) F_law (fun _ _ _ _ _ _ us hl => match us, hl with | [_], _ => rfl) s [v] rfl, fun base _ _ => ?_⟩
  have wh : Fn' P w K mg base 1 "is_whole" (He.ga K "is_whole") d_F_is_whole ["value"] (spIsWhole K) := ⟨ok_isWhole F_is_whole T.b, F_is_whole.binds fun _ _ _ _ _ _ us hl => match us, hl with | [_], _ => rfl, h_glob X G c (by decide +kernel), F_is_whole.kp⟩
  have ro : Fn' P w K mg base 1 "is_row_of" (He.ga K "is_row_of") d_F_is_row_of ["value", "many"] (spIsRowOf K) := ⟨ok_isRowOf F_is_row_of T.b, F_is_row_of.binds fun _ _ _ _ _ _ us hl => match us, hl with | [_, _], _ => rfl, h_glob X G c (by decide +kernel), F_is_row_of.kp⟩
  have fr : Fn' P w K mg base 2 "is_fraction" (He.ga K "is_fraction") d_F_is_fraction ["value"] (spIsFraction K) := ⟨ok_isFraction F_is_fraction T.gcd wh ro, F_is_fraction.binds fun _ _ _ _ _ _ us hl => match us, hl with | [_], _ => rfl, h_glob X G c (by decide +kernel), F_is_fraction.kp⟩
  have ff : Fn' P w K mg base 3 "is_fraction_row" (He.ga K "is_fraction_row") d_F_is_fraction_row ["value", "many"] (spIsFractionRow K) := ⟨ok_isFractionRow F_is_fraction_row T.b fr ro, F_is_fraction_row.binds fun _ _ _ _ _ _ us hl => match us, hl with | [_, _], _ => rfl, h_glob X G c (by decide +kernel), F_is_fraction_row.kp⟩
  have sq : Fn' P w K mg base 4 "is_square" (He.ga K "is_square") d_F_is_square ["value", "many"] (spIsSquare K) := ⟨ok_isSquare F_is_square T.b ff ro, F_is_square.binds fun _ _ _ _ _ _ us hl => match us, hl with | [_, _], _ => rfl, h_glob X G c (by decide +kernel), F_is_square.kp⟩
  have sh : Fn' P w K mg base 1 "shared_row" (He.ga K "shared_row") d_F_shared_row ["fractions"] (spSharedRow K) := ⟨ok_sharedRow F_shared_row T.b T.lcm, F_shared_row.binds fun _ _ _ _ _ _ us hl => match us, hl with | [_], _ => rfl, h_glob X G c (by decide +kernel), F_shared_row.kp⟩
  have rt : Fn' P w K mg base 1 "row_times" (He.ga K "row_times") d_F_row_times ["tops", "values"] (spRowTimes K) := ⟨ok_rowTimes F_row_times T.b, F_row_times.binds fun _ _ _ _ _ _ us hl => match us, hl with | [_, _], _ => rfl, h_glob X G c (by decide +kernel), F_row_times.kp⟩
  have mk : Made P w K mg base 1 "PlainRule" (He.ga K "PlainRule") (mth "PlainRule" "__init__" K) d_F_init ["self", "halves", "starts", "answer"] (spRuleInit (He.ga K "PlainRule")) := ⟨T.mkr, ok_ruleInit F_init T.t, T.g, F_init.binds fun _ _ _ _ _ _ us hl => match us, hl with | [_, _, _, _], _ => rfl⟩
  have pl : Fn' P w K mg base 5 "plain_in" (He.ga K "plain_in") d_F_plain_in ["value"] (spPlainIn K (He.ga K "PlainRule")) := ⟨ok_plainIn F_plain_in T.b hPl wh ro ff sq sh rt mk, F_plain_in.binds fun _ _ _ _ _ _ us hl => match us, hl with | [_], _ => rfl, h_glob X G c (by decide +kernel), F_plain_in.kp⟩
  have lo : Fn' P w K mg base 1 "lowest_terms" (He.ga K "lowest_terms") d_F_lowest_terms ["top", "bottom"] spLowest := ⟨ok_lowest F_lowest_terms T.gcd, F_lowest_terms.binds fun _ _ _ _ _ _ us hl => match us, hl with | [_, _], _ => rfl, h_glob X G c (by decide +kernel), F_lowest_terms.kp⟩
  have hv : Fn' P w K mg base 2 "half_values" (He.ga K "half_values") d_F_half_values ["rule", "values", "digit"] (spHalfValues K (He.ga K "PlainRule")) := ⟨ok_halfValues F_half_values T.b T.t T.lcm lo rt, F_half_values.binds fun _ _ _ _ _ _ us hl => match us, hl with | [_, _, _], _ => rfl, h_glob X G c (by decide +kernel), F_half_values.kp⟩
  have va : Fn' P w K mg base 3 "values_at_all" (He.ga K "values_at_all") d_F_values_at_all ["rule", "numbers"] (spValuesAtAll K (He.ga K "PlainRule")) := ⟨ok_valuesAtAll F_values_at_all T.b T.t hv, F_values_at_all.binds fun _ _ _ _ _ _ us hl => match us, hl with | [_, _], _ => rfl, h_glob X G c (by decide +kernel), F_values_at_all.kp⟩
  have tv : Fn' P w K mg base 2 "told_value" (He.ga K "told_value") d_F_told_value ["rule", "values"] (spToldValue K (He.ga K "PlainRule")) := ⟨ok_toldValue F_told_value T.t rt, F_told_value.binds fun _ _ _ _ _ _ us hl => match us, hl with | [_, _], _ => rfl, h_glob X G c (by decide +kernel), F_told_value.kp⟩
  have au : Fn' P w K mg base 1 "adds_up_to_0" (He.ga K "adds_up_to_0") d_F_adds_up_to_0 ["factors", "pairs"] (spAddsUp K) := ⟨ok_addsUp F_adds_up_to_0 T.b T.lcm, F_adds_up_to_0.binds fun _ _ _ _ _ _ us hl => match us, hl with | [_, _], _ => rfl, h_glob X G c (by decide +kernel), F_adds_up_to_0.kp⟩
  have as_ : Fn' P w K mg base 2 "are_ascending" (He.ga K "are_ascending") d_F_are_ascending ["numbers"] (spAreAscending K) := ⟨ok_areAscending F_are_ascending wh, F_are_ascending.binds fun _ _ _ _ _ _ us hl => match us, hl with | [_], _ => rfl, h_glob X G c (by decide +kernel), F_are_ascending.kp⟩
  have rf : Fn' P w K mg base 4 "is_row_for" (He.ga K "is_row_for") d_F_is_row_for ["row", "numbers", "place", "end"] (spIsRowFor K) := ⟨ok_isRowFor F_is_row_for T.b T.z T.kz ff, F_is_row_for.binds fun _ _ _ _ _ _ us hl => match us, hl with | [_, _, _, _], _ => rfl, h_glob X G c (by decide +kernel), F_is_row_for.kp⟩
  have ws : Fn' P w K mg base 5 "is_written_as_span" (He.ga K "is_written_as_span") d_F_is_written_as_span ["value", "end"] (spIsWritten K) := ⟨ok_isWritten F_is_written_as_span T.b hSp ro as_ rf, F_is_written_as_span.binds fun _ _ _ _ _ _ us hl => match us, hl with | [_, _], _ => rfl, h_glob X G c (by decide +kernel), F_is_written_as_span.kp⟩
  have an : Fn' P w K mg base 1 "asked_numbers" (He.ga K "asked_numbers") d_F_asked_numbers ["numbers", "rows"] (spAskedNumbers K) := ⟨ok_asked F_asked_numbers T.b, F_asked_numbers.binds fun _ _ _ _ _ _ us hl => match us, hl with | [_, _], _ => rfl, h_glob X G c (by decide +kernel), F_asked_numbers.kp⟩
  have ir : Fn' P w K mg base 1 "is_right" (He.ga K "is_right") d_F_is_right ["row", "numbers", "place", "table"] (spIsRight K) := ⟨ok_isRight F_is_right T.b T.lcm T.z T.kz, F_is_right.binds fun _ _ _ _ _ _ us hl => match us, hl with | [_, _, _, _], _ => rfl, h_glob X G c (by decide +kernel), F_is_right.kp⟩
  have vs : Fn' P w K mg base 6 "values_in_span" (He.ga K "values_in_span") d_F_values_in_span ["value", "rules", "end"] (spValuesInSpan K (He.ga K "PlainRule")) := ⟨ok_valuesInSpan (zA := He.ga K "ZERO") F_values_in_span T.b T.t ws an va ir, F_values_in_span.binds fun _ _ _ _ _ _ us hl => match us, hl with | [_, _, _], _ => rfl, h_glob X G c (by decide +kernel), F_values_in_span.kp⟩
  have rl : Fn' P w K mg base 6 "rules_in" (He.ga K "rules_in") d_F_rules_in ["values"] (spRulesIn K (He.ga K "PlainRule")) := ⟨ok_rulesIn F_rules_in T.t pl, F_rules_in.binds fun _ _ _ _ _ _ us hl => match us, hl with | [_], _ => rfl, h_glob X G c (by decide +kernel), F_rules_in.kp⟩
  have ua : Fn' P w K mg base 3 "add_up_at" (He.ga K "add_up_at") d_F_add_up_at ["rules", "factors", "lines"] (spAddUpAt K (He.ga K "PlainRule")) := ⟨ok_addUpAt F_add_up_at T.b au tv, F_add_up_at.binds fun _ _ _ _ _ _ us hl => match us, hl with | [_, _, _], _ => rfl, h_glob X G c (by decide +kernel), F_add_up_at.kp⟩
  have us_ : Fn' P w K mg base 7 "add_up_in_span" (He.ga K "add_up_in_span") d_F_add_up_in_span ["rules", "factors", "certificate", "end"] (spAddUpInSpan K (He.ga K "PlainRule")) := ⟨ok_addUpInSpan F_add_up_in_span T.b vs ua, F_add_up_in_span.binds fun _ _ _ _ _ _ us hl => match us, hl with | [_, _, _, _], _ => rfl, h_glob X G c (by decide +kernel), F_add_up_in_span.kp⟩
  have re : Fn' P w K mg base 8 "is_relation" (He.ga K "is_relation") d_F_is_relation ["things", "certificate"] (spIsRelation K) := ⟨ok_isRelation F_is_relation T.b hRe wh ro rl us_, F_is_relation.binds fun _ _ _ _ _ _ us hl => match us, hl with | [_, _], _ => rfl, h_glob X G c (by decide +kernel), F_is_relation.kp⟩
  have bw : Fn' P w K mg base 2 "is_between" (He.ga K "is_between") d_F_is_between ["value", "low", "high"] (spIsBetween K) := ⟨ok_isBetween F_is_between wh, F_is_between.binds fun _ _ _ _ _ _ us hl => match us, hl with | [_, _, _], _ => rfl, h_glob X G c (by decide +kernel), F_is_between.kp⟩
  have ap : Fn' P w K mg base 4 "are_apart" (He.ga K "are_apart") d_F_are_apart ["rules", "number"] (spAreApart K (He.ga K "PlainRule")) := ⟨ok_areApart F_are_apart hLa bw ua va, F_are_apart.binds fun _ _ _ _ _ _ us hl => match us, hl with | [_, _], _ => rfl, h_glob X G c (by decide +kernel), F_are_apart.kp⟩
  have sa : Fn' P w K mg base 9 "is_same" (He.ga K "is_same") d_F_is_same ["things", "certificate"] (spIsSame K) := ⟨ok_isSame F_is_same re, F_is_same.binds fun _ _ _ _ _ _ us hl => match us, hl with | [_, _], _ => rfl, h_glob X G c (by decide +kernel), F_is_same.kp⟩
  have pt : Fn' P w K mg base 8 "is_parting" (He.ga K "is_parting") d_F_is_parting ["things", "certificate"] (spIsParting K) := ⟨ok_isParting F_is_parting T.b rl ap us_, F_is_parting.binds fun _ _ _ _ _ _ us hl => match us, hl with | [_, _], _ => rfl, h_glob X G c (by decide +kernel), F_is_parting.kp⟩
  have wo : ∀ word n, (word = ("relation" : Str) ∧ n = 2) ∨ (word = ("same" : Str) ∧ n = 2) ∨ (word = ("parting" : Str) ∧ n = 3) → WordOk P w K mg base 9 (He.ga K "CHECKS") (He.ga K "THINGS") (SP66 K) word n := by
    rintro word n (⟨e1, e2⟩ | ⟨e1, e2⟩ | ⟨e1, e2⟩)
    · subst e1; subst e2
      exact ⟨⟨_, _, T.kc, T.kt, fnok_weak re.ok (by decide) fun vs H Q E h => by
        rcases h with ⟨_, h⟩ | ⟨h, _⟩ | ⟨h, _⟩
        · exact h
        · exact absurd h (by decide +kernel)
        · exact absurd h (by decide +kernel), re.b, re.k⟩⟩
    · subst e1; subst e2
      exact ⟨⟨_, _, T.kcs, T.kts, fnok_weak sa.ok (by decide) fun vs H Q E h => by
        rcases h with ⟨h, _⟩ | ⟨_, h⟩ | ⟨h, _⟩
        · exact absurd h (by decide +kernel)
        · exact h
        · exact absurd h (by decide +kernel), sa.b, sa.k⟩⟩
    · subst e1; subst e2
      exact ⟨⟨_, _, T.kcp, T.ktp, fnok_weak pt.ok (by decide) fun vs H Q E h => by
        rcases h with ⟨h, _⟩ | ⟨h, _⟩ | ⟨_, h⟩
        · exact absurd h (by decide +kernel)
        · exact absurd h (by decide +kernel)
        · exact h, pt.b, pt.k⟩⟩
  have ac : Fn' P w K mg base 10 "accepts" (He.ga K "accepts") d_F_accepts ["claim", "certificate"] (spAcc K) := ⟨ok_accepts (es2 := #[]) (n2 := 0) F_accepts T.b T.c T.th DC (by decide) wo, F_accepts.binds fun _ _ _ _ _ _ us hl => match us, hl with | [_, _], _ => rfl, h_glob X G c (by decide +kernel), F_accepts.kp⟩
  have ce : Fn' P w K mg base 1 "_law_cell" (He.ga K "_law_cell") d_F_law_cell ["_law_cells", "_law_spot"] (spCell K) := ⟨ok_cell F_law_cell T.b, F_law_cell.binds fun _ _ _ _ _ _ us hl => match us, hl with | [_, _], _ => rfl, h_glob X G c (by decide +kernel), F_law_cell.kp⟩
  have so : Fn' P w K mg base 1 "_law_source" (He.ga K "_law_source") d_F_law_source ["_law_cell_here"] spSource := ⟨ok_source F_law_source T.b, F_law_source.binds fun _ _ _ _ _ _ us hl => match us, hl with | [_], _ => rfl, h_glob X G c (by decide +kernel), F_law_source.kp⟩
  have dr : Fn' P w K mg base 1 "_law_draw" (He.ga K "_law_draw") d_F_law_draw ["_law_source_here", "_law_many"] spDraw := ⟨ok_draw F_law_draw T.b, F_law_draw.binds fun _ _ _ _ _ _ us hl => match us, hl with | [_, _], _ => rfl, h_glob X G c (by decide +kernel), F_law_draw.kp⟩
  have im : Fn' P w K mg base 1 "_law_image" (He.ga K "_law_image") d_F_law_image ["_law_rows", "_law_worths"] (spImage K) := ⟨ok_image F_law_image T.b, F_law_image.binds fun _ _ _ _ _ _ us hl => match us, hl with | [_, _], _ => rfl, h_glob X G c (by decide +kernel), F_law_image.kp⟩
  have dg : Fn' P w K mg base 1 "_law_digits" (He.ga K "_law_digits") d_F_law_digits ["_law_at_here"] spDigits := ⟨ok_digits F_law_digits T.b, F_law_digits.binds fun _ _ _ _ _ _ us hl => match us, hl with | [_], _ => rfl, h_glob X G c (by decide +kernel), F_law_digits.kp⟩
  have li : Fn' P w K mg base 2 "_law_lines" (He.ga K "_law_lines") d_F_law_lines ["_law_some", "_law_at_here"] (spLines K) := ⟨ok_lines F_law_lines T.b dg im, F_law_lines.binds fun _ _ _ _ _ _ us hl => match us, hl with | [_, _], _ => rfl, h_glob X G c (by decide +kernel), F_law_lines.kp⟩
  have at_ : Fn' P w K mg base 3 "_law_at" (He.ga K "_law_at") d_F_law_at ["_law_some", "_law_at_here"] (spAt K) := ⟨ok_at F_law_at li im, F_law_at.binds fun _ _ _ _ _ _ us hl => match us, hl with | [_, _], _ => rfl, h_glob X G c (by decide +kernel), F_law_at.kp⟩
  have nu : Fn' P w K mg base 2 "_law_number" (He.ga K "_law_number") d_F_law_number ["_law_source_here", "_law_wide"] spNumber := ⟨ok_number F_law_number dr, F_law_number.binds fun _ _ _ _ _ _ us hl => match us, hl with | [_, _], _ => rfl, h_glob X G c (by decide +kernel), F_law_number.kp⟩
  have rw_ : Fn' P w K mg base 3 "_law_row" (He.ga K "_law_row") d_F_law_row ["_law_source_here", "_law_many", "_law_wide"] spRow := ⟨ok_row F_law_row T.b nu, F_law_row.binds fun _ _ _ _ _ _ us hl => match us, hl with | [_, _, _], _ => rfl, h_glob X G c (by decide +kernel), F_law_row.kp⟩
  have ru : Fn' P w K mg base 4 "_law_rule" (He.ga K "_law_rule") d_F_law_rule ["_law_source_here", "_law_many", "_law_wide"] (spRule K) := ⟨ok_rule F_law_rule T.b dr rw_ im, F_law_rule.binds fun _ _ _ _ _ _ us hl => match us, hl with | [_, _, _], _ => rfl, h_glob X G c (by decide +kernel), F_law_rule.kp⟩
  have pn : Fn' P w K mg base 1 "_law_plain" (He.ga K "_law_plain") d_F_law_plain ["_law_some"] (spPlain K) := ⟨ok_plain F_law_plain T.b, F_law_plain.binds fun _ _ _ _ _ _ us hl => match us, hl with | [_], _ => rfl, h_glob X G c (by decide +kernel), F_law_plain.kp⟩
  have jo : Fn' P w K mg base 3 "_law_joint" (He.ga K "_law_joint") d_F_law_joint ["_law_rules", "_law_at_here"] (spJoint K) := ⟨ok_joint F_law_joint li, F_law_joint.binds fun _ _ _ _ _ _ us hl => match us, hl with | [_, _], _ => rfl, h_glob X G c (by decide +kernel), F_law_joint.kp⟩
  have dv : Fn' P w K mg base 1 "_law_divisor" (He.ga K "_law_divisor") d_F_law_divisor ["_law_one", "_law_two"] spDivisor := ⟨ok_divisor F_law_divisor T.b, F_law_divisor.binds fun _ _ _ _ _ _ us hl => match us, hl with | [_, _], _ => rfl, h_glob X G c (by decide +kernel), F_law_divisor.kp⟩
  have tn : Fn' P w K mg base 2 "_law_thin" (He.ga K "_law_thin") d_F_law_thin ["_law_row_here"] (spThin K) := ⟨ok_thin F_law_thin dv, F_law_thin.binds fun _ _ _ _ _ _ us hl => match us, hl with | [_], _ => rfl, h_glob X G c (by decide +kernel), F_law_thin.kp⟩
  have fc : Fn' P w K mg base 2 "_law_fraction" (He.ga K "_law_fraction") d_F_law_fraction ["_law_top", "_law_bottom"] spFraction := ⟨ok_fraction F_law_fraction dv, F_law_fraction.binds fun _ _ _ _ _ _ us hl => match us, hl with | [_, _], _ => rfl, h_glob X G c (by decide +kernel), F_law_fraction.kp⟩
  have cl_ : Fn' P w K mg base 3 "_law_cleared" (He.ga K "_law_cleared") d_F_law_cleared ["_law_row_here", "_law_kept_here"] (spCleared K) := ⟨ok_cleared F_law_cleared T.b tn, F_law_cleared.binds fun _ _ _ _ _ _ us hl => match us, hl with | [_, _], _ => rfl, h_glob X G c (by decide +kernel), F_law_cleared.kp⟩
  have fa_ : Fn' P w K mg base 4 "_law_factors" (He.ga K "_law_factors") d_F_law_factors ["_law_kept_here", "_law_aim"] (spFactors K) := ⟨ok_factors F_law_factors T.b cl_ fc, F_law_factors.binds fun _ _ _ _ _ _ us hl => match us, hl with | [_, _], _ => rfl, h_glob X G c (by decide +kernel), F_law_factors.kp⟩
  have ke : Fn' P w K mg base 4 "_law_kept" (He.ga K "_law_kept") d_F_law_kept ["_law_kept_here", "_law_worths"] (spKept K) := ⟨ok_kept F_law_kept T.b cl_, F_law_kept.binds fun _ _ _ _ _ _ us hl => match us, hl with | [_, _], _ => rfl, h_glob X G c (by decide +kernel), F_law_kept.kp⟩
  have sm : Fn' P w K mg base 5 "_law_small" (He.ga K "_law_small") d_F_law_small ["_law_source_here", "_law_many", "_law_wide"] (spSmall K) := ⟨ok_small F_law_small T.b dr ru rw_, F_law_small.binds fun _ _ _ _ _ _ us hl => match us, hl with | [_, _, _], _ => rfl, h_glob X G c (by decide +kernel), F_law_small.kp⟩
  have dw : Fn' P w K mg base 5 "_law_drawn_row" (He.ga K "_law_drawn_row") d_F_law_drawn_row ["_law_source_here", "_law_rules", "_law_numbers", "_law_later", "_law_limit"] (spDrawnRow K) := ⟨ok_drawnRow F_law_drawn_row T.b dr jo fa_ ke, F_law_drawn_row.binds fun _ _ _ _ _ _ us hl => match us, hl with | [_, _, _, _, _], _ => rfl, h_glob X G c (by decide +kernel), F_law_drawn_row.kp⟩
  have pa : Fn' P w K mg base 6 "_law_paper" (He.ga K "_law_paper") d_F_law_paper ["_law_source_here", "_law_rules", "_law_limit"] (spPaper K) := ⟨ok_paper F_law_paper T.b dr dw, F_law_paper.binds fun _ _ _ _ _ _ us hl => match us, hl with | [_, _, _], _ => rfl, h_glob X G c (by decide +kernel), F_law_paper.kp⟩
  have ma : Fn' P w K mg base 1 "_law_makes" (He.ga K "_law_makes") d_F_law_makes ["_law_row_here", "_law_points", "_law_aim"] (spMakes K) := ⟨ok_makes F_law_makes T.b, F_law_makes.binds fun _ _ _ _ _ _ us hl => match us, hl with | [_, _, _], _ => rfl, h_glob X G c (by decide +kernel), F_law_makes.kp⟩
  have sp : Fn' P w K mg base 4 "_law_is_span" (He.ga K "_law_is_span") d_F_law_is_span ["_law_rules", "_law_paper_here", "_law_limit"] (spIsSpan K) := ⟨ok_isSpan F_law_is_span T.b jo ma, F_law_is_span.binds fun _ _ _ _ _ _ us hl => match us, hl with | [_, _, _], _ => rfl, h_glob X G c (by decide +kernel), F_law_is_span.kp⟩
  have su : Fn' P w K mg base 4 "_law_sums" (He.ga K "_law_sums") d_F_law_sums ["_law_rules", "_law_by", "_law_spots"] (spSums K) := ⟨ok_sums F_law_sums T.b at_, F_law_sums.binds fun _ _ _ _ _ _ us hl => match us, hl with | [_, _, _], _ => rfl, h_glob X G c (by decide +kernel), F_law_sums.kp⟩
  have gs := ok_spanRight (P := P) (w := w) (mg := mg) (base := base) F_law_span_right T.b pa pn sp su ac
  have gp := ok_partingRight (P := P) (w := w) (mg := mg) (base := base) F_law_parting_right T.b dr pa pn sp su ac
  have ri := ok_right (P := P) (w := w) (mg := mg) (base := base) F_law_right T.b dr rw_ sm gs (h_glob X G c (by decide +kernel)) F_law_span_right.kp (F_law_span_right.binds fun _ _ _ _ _ _ us hl => match us, hl with | [_, _, _], _ => rfl) gp (h_glob X G c (by decide +kernel)) F_law_parting_right.kp (F_law_parting_right.binds fun _ _ _ _ _ _ us hl => match us, hl with | [_, _], _ => rfl)
  exact ok_law F_law T.b ce so ri (h_glob X G c (by decide +kernel)) F_law_right.kp (F_law_right.binds fun _ _ _ _ _ _ us hl => match us, hl with | [_], _ => rfl)
end
end L2.EH
end S_M5
set_option maxRecDepth 100000
set_option maxHeartbeats 0
open PySem PySem.W PySem.Calls PyProof.Rows
theorem PySem.Challenge.cw_halverules_k66_whole_accepted_claims_are_holds : PySem.Challenge.rw_halverules_k66_whole_accepted_claims_are.Holds :=
  L2.EH.head_gives fun w mg fa h K KX G hmg c => by
    obtain ⟨fd, hb, hF⟩ := L2.EH.facts_law (P := (PySem.Challenge.rw_halverules_k66_whole_accepted_claims_are).prog) (w := w) KX G hmg c
    exact ⟨fd, L2.EH.spLaw K, hb, fun H a ns hl _ hS => ⟨a, ns, rfl, hS, hl, fun _ => rfl⟩, hF⟩
