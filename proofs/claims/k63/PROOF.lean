import PyProof.Rows.All
import Wide.All
import OpenK.AllK
import Wide.FinOn
import HandS.ForMost
import HandS.Exc
import HandS.Wide
import HandS.WideBits
import HandS.Gcd
import HandS.DictComp
import HandS.Iter
import HandS.Conv
import HandS.RevRange
import HandS.Star
import HandS.Property
import HandS.OwnEq
import HandS.IsInst
import HandS.Walk
import HandS.TupMul
import HandS.TupLe
import HandS.TupAny
import HandS.TupLen
import HandS.CallLocal
import HandS.WrittenGet
import HandS.Deep
import HandS.DeepEq
import HandS.DictTup
import HandS.Style
import HandS.Rev
import HandS.Sort
import HandS.SortInts
import HandS.RaiseMore
import KE.KUnpackStar
import KE.KMathGC
import PyProof.ReprRoads
import Wide.Loose
import KE.KStateDown
import HandS.Defaults
import HandS.Head0
import HandS.Head1
import HandS.Head2
import HandS.Head3
import HandS.HeadEnd
import HandS.HeadHook1
import HandS.HeadHook2
import HandS.HeadHook3
import KE.GoesNew
import KE.GoesEnum
import KE.DataCmp
import KE.SortData
import HandS.TryOnly
import KE.KRevSl
import PySem.Challenge.RW_halverules_k63_rests_judged
set_option Elab.async false
set_option linter.all false
section S_HalvesLin
/- Combinations of functions from the numbers to the fractions: spans, independent lists, exchange. Pure; needs nothing. -/
namespace L2.Halves

abbrev Vec (ι : Type) := ι → Rat
abbrev Fn := Vec Nat

variable {ι κ : Type}

/-- The combinations of the functions of a kind. -/
inductive Span (S : Vec ι → Prop) : Vec ι → Prop
  | zero : Span S (fun _ => 0)
  | more (a : Rat) (s v : Vec ι) : S s → Span S v → Span S (fun n => a * s n + v n)

theorem Span.congr {S : Vec ι → Prop} {u v : Vec ι} (h : Span S u) (e : ∀ n, u n = v n) : Span S v := by
  have : u = v := funext e
  exact this ▸ h

theorem Span.of {S : Vec ι → Prop} {s : Vec ι} (h : S s) : Span S s :=
  (Span.more 1 s _ h .zero).congr (fun n => by grind)

theorem Span.add {S : Vec ι → Prop} {u v : Vec ι} (hu : Span S u) (hv : Span S v) : Span S (fun n => u n + v n) := by
  induction hu with
  | zero => exact hv.congr (fun n => by grind)
  | more a s w hs _ ih => exact (Span.more a s _ hs ih).congr (fun n => by grind)

theorem Span.smul {S : Vec ι → Prop} {v : Vec ι} (c : Rat) (hv : Span S v) : Span S (fun n => c * v n) := by
  induction hv with
  | zero => exact Span.zero.congr (fun n => by grind)
  | more a s w hs _ ih => exact (Span.more (c * a) s _ hs ih).congr (fun n => by grind)

theorem Span.trans {S T : Vec ι → Prop} {v : Vec ι} (h : ∀ s, S s → Span T s) (hv : Span S v) : Span T v := by
  induction hv with
  | zero => exact .zero
  | more a s w hs _ ih => exact ((h s hs).smul a).add ih

theorem Span.mono {S T : Vec ι → Prop} {v : Vec ι} (h : ∀ s, S s → T s) (hv : Span S v) : Span T v :=
  hv.trans (fun s hs => .of (h s hs))

/-- A map that goes by another place: it takes combinations to combinations. -/
theorem Span.at {S : Vec ι → Prop} {T : Vec κ → Prop} {v : Vec ι} (g : κ → ι) (h : ∀ s, S s → Span T (fun n => s (g n)))
    (hv : Span S v) : Span T (fun n => v (g n)) := by
  induction hv with
  | zero => exact .zero
  | more a s w hs _ ih => exact ((h s hs).smul a).add ih

theorem Span.empty {v : Vec ι} (h : Span (fun _ => False) v) : ∀ n, v n = 0 := by
  induction h with
  | zero => intro n; rfl
  | more a s w hs _ _ => exact hs.elim

/-- What is 0 at a place for all, is for combinations. -/
theorem Span.zero_at {S : Vec ι → Prop} {v : Vec ι} (n : ι) (h : ∀ s, S s → s n = 0) (hv : Span S v) : v n = 0 := by
  induction hv with
  | zero => rfl
  | more a s w hs _ ih => have := h s hs; grind

/-- One more: so many times it and a combination of the others. -/
theorem Span.cons {S : Vec ι → Prop} {m v : Vec ι} (h : Span (fun x => x = m ∨ S x) v) :
    ∃ c w, Span S w ∧ ∀ n, v n = c * m n + w n := by
  induction h with
  | zero => exact ⟨0, _, .zero, fun n => by grind⟩
  | more a s w hs _ ih =>
    obtain ⟨c, u, hu, e⟩ := ih
    rcases hs with hs | hs
    · subst hs
      exact ⟨a + c, u, hu, fun n => by have := e n; grind⟩
    · exact ⟨c, _, .more a s u hs hu, fun n => by have := e n; grind⟩

/-- The exchange: f hangs on L and M, but not on L alone; then one of M hangs on the rest of them and f. -/
theorem exchange {L : Vec ι → Prop} {f : Vec ι} (hL : ¬ Span L f) : ∀ M : List (Vec ι), Span (fun x => L x ∨ x ∈ M) f →
    ∃ A m B, M = A ++ m :: B ∧ Span (fun x => L x ∨ x = f ∨ x ∈ A ∨ x ∈ B) m
  | [], h => absurd (h.mono (fun s hs => by simpa using hs)) hL
  | m :: B, h => by
    have h' : Span (fun x => x = m ∨ (L x ∨ x ∈ B)) f := h.mono (fun s hs => by
      rcases hs with hs | hs
      · exact .inr (.inl hs)
      · rcases List.mem_cons.1 hs with hs | hs
        · exact .inl hs
        · exact .inr (.inr hs))
    obtain ⟨c, w, hw, e⟩ := h'.cons
    by_cases hc : c = 0
    · have : Span (fun x => L x ∨ x ∈ B) f := hw.congr (fun n => by have := e n; grind)
      obtain ⟨A, m', B', e', h''⟩ := exchange hL B this
      refine ⟨m :: A, m', B', by simp [e'], h''.mono (fun s hs => ?_)⟩
      rcases hs with hs | hs | hs | hs
      · exact .inl hs
      · exact .inr (.inl hs)
      · exact .inr (.inr (.inl (List.mem_cons_of_mem _ hs)))
      · exact .inr (.inr (.inr hs))
    · refine ⟨[], m, B, rfl, ?_⟩
      have h1 : Span (fun x => L x ∨ x = f ∨ x ∈ ([] : List (Vec ι)) ∨ x ∈ B) (fun n => (1 / c) * f n) :=
        (Span.of (.inr (.inl rfl))).smul _
      have h2 : Span (fun x => L x ∨ x = f ∨ x ∈ ([] : List (Vec ι)) ∨ x ∈ B) (fun n => (-1 / c) * w n) :=
        (hw.mono (fun s hs => by
          rcases hs with hs | hs
          · exact .inl hs
          · exact .inr (.inr (.inr hs)))).smul _
      exact (h1.add h2).congr (fun n => by have := e n; grind)

/-- No function of the list is a combination of those before it (and of L). -/
def Free (L : Vec ι → Prop) (F : List (Vec ι)) : Prop :=
  ∀ A f B, F = A ++ f :: B → ¬ Span (fun x => L x ∨ x ∈ A) f

theorem free_le : ∀ (F M : List (Vec ι)) (L : Vec ι → Prop), Free L F → (∀ f, f ∈ F → Span (fun x => L x ∨ x ∈ M) f) →
    F.length ≤ M.length
  | [], _, _, _, _ => Nat.zero_le _
  | f :: F, M, L, hF, hM => by
    have h0 : ¬ Span L f := fun h => hF [] f F rfl (h.mono (fun s hs => .inl hs))
    obtain ⟨A, m, B, eM, hm⟩ := exchange h0 M (hM f (by simp))
    have hF' : Free (fun x => L x ∨ x = f) F := by
      intro A' g B' e h
      refine hF (f :: A') g B' (by simp [e]) (h.mono (fun s hs => ?_))
      rcases hs with (hs | hs) | hs
      · exact .inl hs
      · exact .inr (by simp [hs])
      · exact .inr (List.mem_cons_of_mem _ hs)
    have := free_le F (A ++ B) (fun x => L x ∨ x = f) hF' (fun g hg => by
      refine (hM g (by simp [hg])).trans (fun s hs => ?_)
      rcases hs with hs | hs
      · exact .of (.inl (.inl hs))
      · subst eM
        rcases List.mem_append.1 hs with hs | hs
        · exact .of (.inr (List.mem_append.2 (.inl hs)))
        · rcases List.mem_cons.1 hs with hs | hs
          · subst hs
            refine hm.mono (fun t ht => ?_)
            rcases ht with ht | ht | ht | ht
            · exact .inl (.inl ht)
            · exact .inl (.inr ht)
            · exact .inr (List.mem_append.2 (.inl ht))
            · exact .inr (List.mem_append.2 (.inr ht))
          · exact .of (.inr (List.mem_append.2 (.inr hs))))
    subst eM
    simp at this ⊢
    omega

/-- The sum of the factors times the functions. -/
def lin : List Rat → List (Vec ι) → Vec ι
  | c :: cs, f :: fs => fun n => c * f n + lin cs fs n
  | _, _ => fun _ => 0

theorem lin_nil (cs : List Rat) (n : Nat) : lin cs [] n = 0 := by cases cs <;> rfl

theorem lin_snoc : ∀ (cs : List Rat) (fs : List (Vec ι)) (c : Rat) (f : Vec ι) (n : ι), cs.length = fs.length →
    lin (cs ++ [c]) (fs ++ [f]) n = lin cs fs n + c * f n
  | [], [], c, f, n, _ => by simp [lin]; grind
  | d :: cs, g :: fs, c, f, n, h => by
    have := lin_snoc cs fs c f n (by simpa using h)
    simp only [List.cons_append, lin, this]; grind
  | [], _ :: _, _, _, _, h => by simp at h
  | _ :: _, [], _, _, _, h => by simp at h

theorem lin_span : ∀ (cs : List Rat) (fs : List (Vec ι)), Span (· ∈ fs) (lin cs fs)
  | [], fs => by cases fs <;> exact .zero
  | c :: cs, [] => .zero
  | c :: cs, f :: fs =>
    .more c f _ (by simp) ((lin_span cs fs).mono (fun s hs => List.mem_cons_of_mem _ hs))

theorem span_lin : ∀ (fs : List (Vec ι)) (v : Vec ι), Span (· ∈ fs) v → ∃ cs, cs.length = fs.length ∧ ∀ n, v n = lin cs fs n
  | [], v, h => ⟨[], rfl, fun n => by
      have := (h.mono (T := fun _ => False) (fun s hs => by simp at hs)).empty n
      simpa [lin] using this⟩
  | f :: fs, v, h => by
    obtain ⟨c, w, hw, e⟩ := (h.mono (T := fun x => x = f ∨ x ∈ fs) (fun s hs => List.mem_cons.1 hs)).cons
    obtain ⟨cs, hl, e'⟩ := span_lin fs w hw
    exact ⟨c :: cs, by simp [hl], fun n => by rw [e n, e' n]; rfl⟩

/-- The factors are unique where the functions are free. -/
theorem lin_unique : ∀ (m : Nat) (fs : List (Vec ι)), fs.length = m → Free (fun _ => False) fs → ∀ cs ds : List Rat,
    cs.length = fs.length → ds.length = fs.length → (∀ n, lin cs fs n = lin ds fs n) → cs = ds
  | 0, fs, hm, _, cs, ds, hc, hd, _ => by
    have e1 := List.eq_nil_of_length_eq_zero (hc.trans hm)
    have e2 := List.eq_nil_of_length_eq_zero (hd.trans hm)
    rw [e1, e2]
  | m + 1, fs, hm, hf, cs, ds, hc, hd, h => by
    have ne : fs ≠ [] := by intro e; simp [e] at hm
    have nc : cs ≠ [] := by intro e; simp [e] at hc; omega
    have nd : ds ≠ [] := by intro e; simp [e] at hd; omega
    obtain ⟨gs, g, rfl⟩ : ∃ gs g, fs = gs ++ [g] := ⟨_, _, (List.dropLast_concat_getLast ne).symm⟩
    obtain ⟨cs', c, rfl⟩ : ∃ gs g, cs = gs ++ [g] := ⟨_, _, (List.dropLast_concat_getLast nc).symm⟩
    obtain ⟨ds', d, rfl⟩ : ∃ gs g, ds = gs ++ [g] := ⟨_, _, (List.dropLast_concat_getLast nd).symm⟩
    have lc : cs'.length = gs.length := by simpa using hc
    have ld : ds'.length = gs.length := by simpa using hd
    have hs : ∀ n, lin cs' gs n + c * g n = lin ds' gs n + d * g n := fun n => by
      have := h n
      rwa [lin_snoc _ _ _ _ _ lc, lin_snoc _ _ _ _ _ ld] at this
    by_cases e : c = d
    · subst e
      have := lin_unique m gs (by simpa using hm) (fun A f B e => hf A f (B ++ [g]) (by simp [e])) cs' ds' lc ld
        (fun n => by have := hs n; grind)
      rw [this]
    · refine absurd ?_ (hf gs g [] rfl)
      have h1 := (lin_span cs' gs).smul (1 / (d - c))
      have h2 := (lin_span ds' gs).smul (-1 / (d - c))
      have hne : d - c ≠ 0 := by grind
      refine ((h1.add h2).congr (v := g) (fun n => ?_)).mono (fun s hs => .inr hs)
      have := hs n
      have e1 : (d - c) * g n = lin cs' gs n - lin ds' gs n := by grind
      grind

end L2.Halves
end S_HalvesLin
section S_HalvesParts
/- Parts, basic parts, and the least rule of a function: what they are, that it is unique, and how it is found. Pure. -/
namespace L2.Halves

/-- The part (k, r). -/
def part (f : Fn) (k r : Nat) : Fn := fun n => f (2 ^ k * n + r)

/-- A function at 2 n + d. -/
def half (f : Fn) (d : Nat) : Fn := fun n => f (2 * n + d)

theorem part_zero (f : Fn) : part f 0 0 = f := by funext n; simp [part]

theorem half_part (f : Fn) (k r d : Nat) : half (part f k r) d = part f (k + 1) (r + d * 2 ^ k) := by
  funext n
  simp only [half, part]
  congr 1
  rw [Nat.pow_succ]; grind

theorem Span.half {S T : Fn → Prop} {v : Fn} (d : Nat) (h : ∀ s, S s → Span T (half s d)) (hv : Span S v) :
    Span T (half v d) := hv.at (fun n => 2 * n + d) h

/-- The order of the parts: by k, and by r among equal k. -/
def Before (p q : Nat × Nat) : Prop := p.1 < q.1 ∨ p.1 = q.1 ∧ p.2 < q.2

instance (p q : Nat × Nat) : Decidable (Before p q) := inferInstanceAs (Decidable (_ ∨ _))

theorem Before.trans {p q r : Nat × Nat} (h : Before p q) (h' : Before q r) : Before p r := by
  unfold Before at *; omega

theorem Before.irrefl (p : Nat × Nat) : ¬ Before p p := by unfold Before; omega

theorem Before.total (p q : Nat × Nat) : Before p q ∨ p = q ∨ Before q p := by
  obtain ⟨a, b⟩ := p
  obtain ⟨c, d⟩ := q
  simp only [Before, Prod.mk.injEq]; omega

/-- A pair that tells a part. -/
def IsPart (p : Nat × Nat) : Prop := p.2 < 2 ^ p.1

/-- The parts before one. -/
def Earlier (f : Fn) (p : Nat × Nat) (s : Fn) : Prop := ∃ q, IsPart q ∧ Before q p ∧ s = part f q.1 q.2

/-- A part that is no combination of the parts before it. -/
def Basic (f : Fn) (p : Nat × Nat) : Prop := IsPart p ∧ ¬ Span (Earlier f p) (part f p.1 p.2)

/-- The parts of a list before a pair. -/
def Listed (f : Fn) (P : List (Nat × Nat)) (C : Nat × Nat → Prop) (s : Fn) : Prop :=
  ∃ q, q ∈ P ∧ C q ∧ s = part f q.1 q.2

/-- What the search for the basic parts leaves: its list, in order; each is new; each half is on it or hangs on those
before; and so is the function itself. -/
structure Searched (f : Fn) (P : List (Nat × Nat)) : Prop where
  isPart : ∀ p, p ∈ P → IsPart p
  fresh : ∀ p, p ∈ P → ¬ Span (Listed f P (Before · p)) (part f p.1 p.2)
  first : (0, 0) ∈ P ∨ Span (fun _ => False) f
  halves : ∀ p, p ∈ P → ∀ d, d < 2 → (p.1 + 1, p.2 + d * 2 ^ p.1) ∈ P ∨
    Span (Listed f P (Before · (p.1 + 1, p.2 + d * 2 ^ p.1))) (part f (p.1 + 1) (p.2 + d * 2 ^ p.1))

/-- Each part is a combination of those of the list up to it. -/
theorem Searched.upTo {f : Fn} {P : List (Nat × Nat)} (h : Searched f P) : ∀ k r, r < 2 ^ k →
    Span (Listed f P (fun q => q = (k, r) ∨ Before q (k, r))) (part f k r)
  | 0, r, hr => by
    have : r = 0 := by simp at hr; omega
    subst this
    rw [part_zero]
    rcases h.first with h1 | h1
    · exact .of ⟨(0, 0), h1, .inl rfl, (part_zero f).symm⟩
    · exact h1.mono (fun _ hs => hs.elim)
  | k + 1, r, hr => by
    obtain ⟨d, r', hd, hr', e⟩ : ∃ d r', d < 2 ∧ r' < 2 ^ k ∧ r = r' + d * 2 ^ k := by
      rw [Nat.pow_succ] at hr
      by_cases c : r < 2 ^ k
      · exact ⟨0, r, by omega, c, by omega⟩
      · exact ⟨1, r - 2 ^ k, by omega, by omega, by omega⟩
    subst e
    rw [← half_part]
    refine (h.upTo k r' hr').half d ?_
    rintro s ⟨q, hq, hb, rfl⟩
    rw [half_part]
    have hle : (q.1 + 1, q.2 + d * 2 ^ q.1) = (k + 1, r' + d * 2 ^ k) ∨
        Before (q.1 + 1, q.2 + d * 2 ^ q.1) (k + 1, r' + d * 2 ^ k) := by
      rcases hb with hb | hb
      · subst hb; exact .inl rfl
      · right
        unfold Before at *
        rcases hb with hb | ⟨hb, hb'⟩
        · left; simpa using hb
        · right
          simp only at hb hb'
          exact ⟨by simp [hb], by rw [hb]; simpa using hb'⟩
    rcases h.halves q hq d hd with h1 | h1
    · exact .of ⟨_, h1, hle, rfl⟩
    · refine h1.mono ?_
      rintro s ⟨p, hp, hb', rfl⟩
      refine ⟨p, hp, .inr ?_, rfl⟩
      rcases hle with e | e
      · rw [← e]; exact hb'
      · exact hb'.trans e

/-- The parts before one are combinations of those of the list before it. -/
theorem Searched.earlier {f : Fn} {P : List (Nat × Nat)} (h : Searched f P) {p : Nat × Nat} {v : Fn}
    (hv : Span (Earlier f p) v) : Span (Listed f P (Before · p)) v := by
  refine hv.trans ?_
  rintro s ⟨q, hq, hb, rfl⟩
  refine (h.upTo q.1 q.2 hq).mono ?_
  rintro s ⟨q', hq', hb', rfl⟩
  refine ⟨q', hq', ?_, rfl⟩
  rcases hb' with e | e
  · rw [e]; exact hb
  · exact e.trans hb

theorem Searched.listed {f : Fn} {P : List (Nat × Nat)} (h : Searched f P) {p : Nat × Nat} {v : Fn}
    (hv : Span (Listed f P (Before · p)) v) : Span (Earlier f p) v := by
  refine hv.mono ?_
  rintro s ⟨q, hq, hb, rfl⟩
  exact ⟨q, h.isPart q hq, hb, rfl⟩

/-- The list has the basic parts, all of them, and no others. -/
theorem Searched.basic {f : Fn} {P : List (Nat × Nat)} (h : Searched f P) (p : Nat × Nat) : p ∈ P ↔ Basic f p := by
  constructor
  · exact fun hp => ⟨h.isPart p hp, fun hs => h.fresh p hp (h.earlier hs)⟩
  · rintro ⟨hp, hs⟩
    refine Classical.byContradiction (fun hn => hs (h.listed ?_))
    refine (h.upTo p.1 p.2 hp).mono ?_
    rintro s ⟨q, hq, hb, rfl⟩
    refine ⟨q, hq, ?_, rfl⟩
    rcases hb with e | e
    · exact absurd ((show q = p from e) ▸ hq) hn
    · exact e

/-- In order, each before all later ones. -/
def Sorted (P : List (Nat × Nat)) : Prop := P.Pairwise Before

theorem sorted_unique : ∀ (P Q : List (Nat × Nat)), Sorted P → Sorted Q → (∀ p, p ∈ P ↔ p ∈ Q) → P = Q
  | [], [], _, _, _ => rfl
  | [], q :: Q, _, _, h => by simpa using (h q).2 (by simp)
  | p :: P, [], _, _, h => by simpa using (h p).1 (by simp)
  | p :: P, q :: Q, hP, hQ, h => by
    have hp := List.pairwise_cons.1 hP
    have hq := List.pairwise_cons.1 hQ
    have e : p = q := by
      rcases List.mem_cons.1 ((h p).1 (by simp)) with e | e
      · exact e
      · rcases List.mem_cons.1 ((h q).2 (by simp)) with e' | e'
        · exact e'.symm
        · exact absurd ((hp.1 q e').trans (hq.1 p e)) (Before.irrefl p)
    subst e
    congr 1
    refine sorted_unique P Q hp.2 hq.2 (fun x => ⟨fun hx => ?_, fun hx => ?_⟩)
    · rcases List.mem_cons.1 ((h x).1 (List.mem_cons_of_mem _ hx)) with e | e
      · subst e; exact absurd (hp.1 x hx) (Before.irrefl x)
      · exact e
    · rcases List.mem_cons.1 ((h x).2 (List.mem_cons_of_mem _ hx)) with e | e
      · subst e; exact absurd (hq.1 x hx) (Before.irrefl x)
      · exact e

/-- The functions of a list of parts. -/
def partsOf (f : Fn) (P : List (Nat × Nat)) : List Fn := P.map (fun p => part f p.1 p.2)

theorem sorted_before {P A B : List (Nat × Nat)} {p : Nat × Nat} (h : Sorted P) (e : P = A ++ p :: B) (q : Nat × Nat)
    (hq : q ∈ P) : q ∈ A ↔ Before q p := by
  subst e
  have h1 := List.pairwise_append.1 h
  constructor
  · exact fun ha => h1.2.2 q ha p (by simp)
  · intro hb
    rcases List.mem_append.1 hq with ha | ha
    · exact ha
    · rcases List.mem_cons.1 ha with e | e
      · subst e; exact absurd hb (Before.irrefl _)
      · exact absurd (hb.trans ((List.pairwise_cons.1 h1.2.1).1 q e)) (Before.irrefl _)

theorem Searched.free {f : Fn} {P : List (Nat × Nat)} (h : Searched f P) (hs : Sorted P) :
    Free (fun _ => False) (partsOf f P) := by
  intro A g B e hg
  obtain ⟨A', B', e1, e2, e3⟩ := List.map_eq_append_iff.1 e
  obtain ⟨p, B'', e4, e5, e6⟩ := List.map_eq_cons_iff.1 e3
  subst e4 e5
  refine h.fresh p (by simp [e1]) (hg.mono ?_)
  rintro s (hs' | hs')
  · exact hs'.elim
  · rw [← e2] at hs'
    obtain ⟨q, hq, rfl⟩ := List.mem_map.1 hs'
    have hq' : q ∈ P := by simp [e1, hq]
    exact ⟨q, hq', (sorted_before hs e1 q hq').1 hq, rfl⟩

/-- The least rule of a function. -/
structure Least (f : Fn) (basis : List (Nat × Nat)) (rows : List (List Rat × List Rat)) (firsts : List Rat) : Prop where
  sorted : Sorted basis
  basic : ∀ p, p ∈ basis ↔ Basic f p
  free : Free (fun _ => False) (partsOf f basis)
  whole : Span (· ∈ partsOf f basis) f
  many : rows.length = basis.length
  wide : ∀ i (h : i < rows.length), rows[i].1.length = basis.length ∧ rows[i].2.length = basis.length
  tells : ∀ i (h : i < rows.length) (h' : i < basis.length) n,
    part f basis[i].1 basis[i].2 (2 * n) = lin rows[i].1 (partsOf f basis) n ∧
    part f basis[i].1 basis[i].2 (2 * n + 1) = lin rows[i].2 (partsOf f basis) n
  starts : firsts = (partsOf f basis).map (· 0)

theorem Least.unique {f : Fn} {P Q : List (Nat × Nat)} {R T : List (List Rat × List Rat)} {a b : List Rat}
    (h : Least f P R a) (h' : Least f Q T b) : P = Q ∧ R = T ∧ a = b := by
  have e : P = Q := sorted_unique P Q h.sorted h'.sorted (fun p => (h.basic p).trans (h'.basic p).symm)
  subst e
  refine ⟨rfl, ?_, h.starts.trans h'.starts.symm⟩
  refine List.ext_getElem (h.many.trans h'.many.symm) (fun i h1 h2 => ?_)
  have hi : i < P.length := h.many ▸ h1
  have lp : (partsOf f P).length = P.length := by simp [partsOf]
  refine Prod.ext ?_ ?_
  · exact lin_unique _ _ rfl h.free _ _ (by rw [lp]; exact (h.wide i h1).1) (by rw [lp]; exact (h'.wide i h2).1)
      (fun n => (h.tells i h1 hi n).1.symm.trans (h'.tells i h2 hi n).1)
  · exact lin_unique _ _ rfl h.free _ _ (by rw [lp]; exact (h.wide i h1).2) (by rw [lp]; exact (h'.wide i h2).2)
      (fun n => (h.tells i h1 hi n).2.symm.trans (h'.tells i h2 hi n).2)

/-- Lists of functions with the same values at a place have the same sums there. -/
theorem lin_congr : ∀ (cs : List Rat) (fs gs : List Fn) (n : Nat), fs.map (· n) = gs.map (· n) → lin cs fs n = lin cs gs n
  | [], [], [], _, _ => rfl
  | [], f :: fs, g :: gs, _, _ => rfl
  | c :: cs, [], [], _, _ => rfl
  | c :: cs, f :: fs, g :: gs, n, h => by
    simp only [List.map_cons, List.cons.injEq] at h
    simp only [lin, h.1, lin_congr cs fs gs n h.2]
  | _, [], _ :: _, _, h => by simp at h
  | _, _ :: _, [], _, h => by simp at h

/-- The least rule tells the values of the parts. -/
theorem Least.same {f g : Fn} {P : List (Nat × Nat)} {R : List (List Rat × List Rat)} {a : List Rat}
    (h : Least f P R a) (h' : Least g P R a) : ∀ m n, n ≤ m → (partsOf f P).map (· n) = (partsOf g P).map (· n)
  | m, 0, _ => h.starts.symm.trans h'.starts
  | 0, n + 1, hn => by omega
  | m + 1, n + 1, hn => by
    obtain ⟨k, d, hd, e⟩ : ∃ k d, d < 2 ∧ n + 1 = 2 * k + d := ⟨(n + 1) / 2, (n + 1) % 2, by omega, by omega⟩
    have ih := h.same h' m k (by omega)
    refine List.ext_getElem (by simp [partsOf]) (fun i h1 h2 => ?_)
    have hi : i < P.length := by simpa [partsOf] using h1
    have hr : i < R.length := by rw [h.many]; exact hi
    have key : part f P[i].1 P[i].2 (n + 1) = part g P[i].1 P[i].2 (n + 1) := by
      rw [e]
      rcases (by omega : d = 0 ∨ d = 1) with rfl | rfl
      · exact ((h.tells i hr hi k).1.trans (lin_congr _ _ _ _ ih)).trans (h'.tells i hr hi k).1.symm
      · exact ((h.tells i hr hi k).2.trans (lin_congr _ _ _ _ ih)).trans (h'.tells i hr hi k).2.symm
    simpa [partsOf] using key

/-- Functions with the same least rule are the same. -/
theorem Least.eq {f g : Fn} {P : List (Nat × Nat)} {R : List (List Rat × List Rat)} {a : List Rat}
    (h : Least f P R a) (h' : Least g P R a) : f = g := by
  funext n
  by_cases h0 : (0, 0) ∈ P
  · have := h.same h' n n (Nat.le_refl n)
    obtain ⟨i, hi, e⟩ := List.getElem_of_mem h0
    have e' := congrArg (fun l => l[i]?) this
    simp only [partsOf, List.map_map, List.getElem?_map] at e'
    rw [List.getElem?_eq_getElem hi, e] at e'
    simpa [part] using e'
  · have z : ∀ (u : Fn), ¬ Basic u (0, 0) → u n = 0 := fun u hu => by
      have : Span (Earlier u (0, 0)) u := Classical.byContradiction (fun hn => hu ⟨by simp [IsPart], by
        simpa [part_zero] using hn⟩)
      refine (this.mono (T := fun _ => False) ?_).empty n
      rintro s ⟨q, _, hb, _⟩
      unfold Before at hb; simp at hb
    rw [z f (fun hb => h0 ((h.basic _).2 hb)), z g (fun hb => h0 ((h'.basic _).2 hb))]

end L2.Halves
end S_HalvesParts
section S_HalvesNumbers
/- New numbers: what they are, how they are found, and that there are as many as the rank. Pure. -/
namespace L2.Halves

variable {G H : Fn → Prop} {C D : Nat → Prop}

/-- The values at n of all functions of a kind. -/
def Val (G : Fn → Prop) (n : Nat) : Vec {g // G g} := fun g => g.1 n

/-- Such values at the numbers of a kind. -/
def Vals (G : Fn → Prop) (C : Nat → Prop) (s : Vec {g // G g}) : Prop := ∃ m, C m ∧ s = Val G m

/-- The sum of factors times values. -/
def ev (l : List (Rat × Nat)) (g : Fn) : Rat := (l.map (fun p => p.1 * g p.2)).sum

theorem ev_cons (p : Rat × Nat) (l : List (Rat × Nat)) (g : Fn) : ev (p :: l) g = p.1 * g p.2 + ev l g := by
  simp [ev]

theorem vals_ev {v : Vec {g // G g}} (h : Span (Vals G C) v) :
    ∃ l : List (Rat × Nat), (∀ p, p ∈ l → C p.2) ∧ ∀ g : {g // G g}, v g = ev l g.1 := by
  induction h with
  | zero => exact ⟨[], by simp, fun g => rfl⟩
  | more a s w hs _ ih =>
    obtain ⟨m, hm, rfl⟩ := hs
    obtain ⟨l, hl, e⟩ := ih
    refine ⟨(a, m) :: l, ?_, fun g => by show a * Val G m g + w g = _; rw [ev_cons, e g]; rfl⟩
    intro p hp
    rcases List.mem_cons.1 hp with e | e
    · rw [e]; exact hm
    · exact hl p e

theorem ev_vals : ∀ (l : List (Rat × Nat)), (∀ p, p ∈ l → C p.2) → Span (Vals G C) (fun g => ev l g.1)
  | [], _ => .zero
  | p :: l, h => (Span.more p.1 _ _ ⟨p.2, h p (by simp), rfl⟩ (ev_vals l (fun q hq => h q (by simp [hq])))).congr
      (fun g => (ev_cons p l g.1).symm)

/-- All functions of a kind have at n one and the same combination of their values at numbers of a kind. -/
def Hangs (G : Fn → Prop) (C : Nat → Prop) (n : Nat) : Prop :=
  ∃ l : List (Rat × Nat), (∀ p, p ∈ l → C p.2) ∧ ∀ g, G g → g n = ev l g

theorem hangs_iff {n : Nat} : Hangs G C n ↔ Span (Vals G C) (Val G n) := by
  constructor
  · rintro ⟨l, hl, e⟩
    exact (ev_vals l hl).congr (fun g => (e g.1 g.2).symm)
  · intro h
    obtain ⟨l, hl, e⟩ := vals_ev h
    exact ⟨l, hl, fun g hg => e ⟨g, hg⟩⟩

theorem ev_more (l : List (Rat × Nat)) (a : Rat) (s w : Fn) : ev l (fun n => a * s n + w n) = a * ev l s + ev l w := by
  induction l with
  | nil => simp [ev]; grind
  | cons p l ih => simp only [ev_cons, ih]; grind

theorem ev_zero (l : List (Rat × Nat)) : ev l (fun _ => 0) = 0 := by
  induction l with
  | nil => rfl
  | cons p l ih => simp only [ev_cons, ih]; grind

theorem ev_all {l : List (Rat × Nat)} {n : Nat} (h : ∀ g, G g → g n = ev l g) {g : Fn} (hg : Span G g) : g n = ev l g := by
  induction hg with
  | zero => rw [ev_zero]
  | more a s w hs _ ih => show a * s n + w n = _; rw [ev_more, h s hs, ih]

theorem Hangs.span {n : Nat} (h : Hangs G C n) (e : ∀ g, H g → Span G g) : Hangs H C n := by
  obtain ⟨l, hl, h'⟩ := h
  exact ⟨l, hl, fun g hg => ev_all h' (e g hg)⟩

theorem Hangs.mono {n : Nat} (h : Hangs G C n) (e : ∀ m, C m → D m) : Hangs G D n := by
  obtain ⟨l, hl, h'⟩ := h
  exact ⟨l, fun p hp => e _ (hl p hp), h'⟩

theorem Hangs.of {n : Nat} (h : C n) : Hangs G C n :=
  ⟨[(1, n)], by simpa using h, fun g _ => by simp [ev]; grind⟩

theorem Hangs.trans {n : Nat} (h : Hangs G C n) (e : ∀ m, C m → Hangs G D m) : Hangs G D n := by
  rw [hangs_iff] at *
  refine Span.trans ?_ h
  rintro s ⟨m, hm, rfl⟩
  exact hangs_iff.1 (e m hm)

theorem Hangs.zero {n : Nat} (h : Hangs G C n) {g : Fn} (hg : Span G g) (hz : ∀ m, C m → g m = 0) : g n = 0 := by
  obtain ⟨l, hl, h'⟩ := h
  rw [ev_all h' hg]
  clear h'
  induction l with
  | nil => rfl
  | cons p l ih =>
    rw [ev_cons, hz _ (hl p (by simp)), ih (fun q hq => hl q (by simp [hq]))]; grind

/-- With each function also what it is at 2 n and at 2 n + 1 is a combination of them. -/
def Closed (G : Fn → Prop) : Prop := ∀ g, G g → ∀ d, d < 2 → Span G (half g d)

theorem ev_half (l : List (Rat × Nat)) (g : Fn) (d : Nat) : ev l (half g d) = ev (l.map (fun p => (p.1, 2 * p.2 + d))) g := by
  simp [ev, half, List.map_map, Function.comp_def]

theorem Hangs.half {n d : Nat} (h : Hangs G C n) (hG : Closed G) (hd : d < 2) :
    Hangs G (fun m => ∃ m', C m' ∧ m = 2 * m' + d) (2 * n + d) := by
  obtain ⟨l, hl, h'⟩ := h
  refine ⟨l.map (fun p => (p.1, 2 * p.2 + d)), ?_, fun g hg => ?_⟩
  · intro p hp
    obtain ⟨q, hq, rfl⟩ := List.mem_map.1 hp
    exact ⟨q.2, hl q hq, rfl⟩
  · rw [← ev_half]
    exact ev_all h' (hG g hg d hd)

/-- A number at which the values do not hang on those at lesser numbers. -/
def New (G : Fn → Prop) (n : Nat) : Prop := ¬ Hangs G (· < n) n

theorem New.span {n : Nat} (h : New H n) (e : ∀ g, H g → Span G g) : New G n := fun h' => h (h'.span e)

/-- What the search for new numbers leaves: a list; each of it is new to those before it; each double, and each double
and one, is on it or hangs on those before; and so is 0. -/
structure Sought (G : Fn → Prop) (N : List Nat) : Prop where
  fresh : ∀ n, n ∈ N → ¬ Hangs G (fun m => m ∈ N ∧ m < n) n
  first : 0 ∈ N ∨ ∀ g, G g → g 0 = 0
  kids : ∀ n, n ∈ N → ∀ d, d < 2 → 2 * n + d ∈ N ∨ Hangs G (fun m => m ∈ N ∧ m < 2 * n + d) (2 * n + d)

theorem Sought.upTo {N : List Nat} (h : Sought G N) (hG : Closed G) : ∀ b n, n ≤ b →
    Hangs G (fun m => m ∈ N ∧ m ≤ n) n
  | b, 0, _ => by
    rcases h.first with h1 | h1
    · exact .of ⟨h1, Nat.le_refl 0⟩
    · exact ⟨[], by simp, fun g hg => h1 g hg⟩
  | 0, n + 1, hb => by omega
  | b + 1, n + 1, hb => by
    obtain ⟨k, d, hd, e⟩ : ∃ k d, d < 2 ∧ n + 1 = 2 * k + d := ⟨(n + 1) / 2, (n + 1) % 2, by omega, by omega⟩
    rw [e]
    refine ((h.upTo hG b k (by omega)).half hG hd).trans ?_
    rintro m ⟨m', ⟨hm, hle⟩, rfl⟩
    rcases h.kids m' hm d hd with h1 | h1
    · exact .of ⟨h1, by omega⟩
    · exact h1.mono (fun q hq => ⟨hq.1, by omega⟩)

/-- The list has the new numbers, all of them, and no others. -/
theorem Sought.new {N : List Nat} (h : Sought G N) (hG : Closed G) (n : Nat) : n ∈ N ↔ New G n := by
  constructor
  · intro hn hh
    refine h.fresh n hn (hh.trans (fun m hm => (h.upTo hG m m (Nat.le_refl m)).mono (fun q hq => ⟨hq.1, by omega⟩)))
  · intro hh
    refine Classical.byContradiction (fun hn => hh ((h.upTo hG n n (Nat.le_refl n)).mono (fun q hq => ?_)))
    have : q ≠ n := fun e => hn (e ▸ hq.1)
    omega

/-- What is 0 at all new numbers up to n is 0 at n. -/
theorem Sought.zero {N : List Nat} (h : Sought G N) (hG : Closed G) {g : Fn} (hg : Span G g) (n : Nat)
    (hz : ∀ m, m ∈ N → m ≤ n → g m = 0) : g n = 0 :=
  (h.upTo hG n n (Nat.le_refl n)).zero hg (fun m hm => hz m hm.1 hm.2)

/-- Half of a new number is new. -/
theorem New.div {n : Nat} (h : New G n) (hG : Closed G) : New G (n / 2) := by
  intro hh
  by_cases h0 : n = 0
  · subst h0; exact h hh
  · refine h ?_
    have := hh.half hG (Nat.mod_lt n (by omega : 0 < 2))
    rw [Nat.div_add_mod] at this
    exact this.mono (fun m hm => by obtain ⟨m', h1, h2⟩ := hm; omega)

/-- The vector that is 1 at one place. -/
def unit (i : Nat) : Vec Nat := fun j => if j = i then 1 else 0

theorem span_units : ∀ (k : Nat) (v : Vec Nat), (∀ j, k ≤ j → v j = 0) → Span (· ∈ (List.range k).map unit) v
  | 0, v, h => Span.zero.congr (fun n => (h n (Nat.zero_le n)).symm)
  | k + 1, v, h => by
    have ih := span_units k (fun j => if j = k then 0 else v j) (fun j hj => by
      by_cases e : j = k
      · simp [e]
      · simp only [e, if_false]; exact h j (by omega))
    refine (Span.more (v k) (unit k) _ (List.mem_map.2 ⟨k, by simp, rfl⟩) (ih.mono (fun s hs => ?_))).congr (fun n => ?_)
    · obtain ⟨i, hi, rfl⟩ := List.mem_map.1 hs
      exact List.mem_map.2 ⟨i, by simp at hi ⊢; omega, rfl⟩
    · by_cases e : n = k
      · subst e; simp [unit]; grind
      · simp [unit, e]; grind

theorem free_width {F : List (Vec Nat)} (k : Nat) (h : Free (fun _ => False) F) (hz : ∀ v, v ∈ F → ∀ j, k ≤ j → v j = 0) :
    F.length ≤ k := by
  have := free_le F ((List.range k).map unit) (fun _ => False) h (fun f hf =>
    (span_units k f (hz f hf)).mono (fun s hs => .inr hs))
  simpa using this

/-- The values of some functions at a number, as a row. -/
def rowAt (P : List Fn) (n : Nat) : Vec Nat := fun i => (P[i]?.map (· n)).getD 0

/-- The values of a function at some numbers, as a row. -/
def rowOf (N : List Nat) (f : Fn) : Vec Nat := fun i => (N[i]?.map f).getD 0

theorem rowAt_zero (P : List Fn) (n j : Nat) (h : P.length ≤ j) : rowAt P n j = 0 := by
  simp [rowAt, List.getElem?_eq_none h]

theorem rowOf_zero (N : List Nat) (f : Fn) (j : Nat) (h : N.length ≤ j) : rowOf N f j = 0 := by
  simp [rowOf, List.getElem?_eq_none h]

/-- Rows hang on rows just as the values do. -/
theorem hangs_rows {P : List Fn} {n : Nat} : Hangs (· ∈ P) C n ↔ Span (fun s => ∃ m, C m ∧ s = rowAt P m) (rowAt P n) := by
  constructor
  · intro h
    rw [hangs_iff] at h
    by_cases hP : P = []
    · subst hP; exact Span.zero.congr (fun i => by simp [rowAt])
    · obtain ⟨l, hl, e⟩ := vals_ev h
      have : ∀ l : List (Rat × Nat), (∀ p, p ∈ l → C p.2) → Span (fun s => ∃ m, C m ∧ s = rowAt P m)
          (fun i => (P[i]?.map (fun g => ev l g)).getD 0) := by
        intro l
        induction l with
        | nil => intro _; exact Span.zero.congr (fun i => by cases P[i]? <;> simp [ev])
        | cons p l ih =>
          intro hl
          refine (Span.more p.1 (rowAt P p.2) _ ⟨p.2, hl p (by simp), rfl⟩ (ih (fun q hq => hl q (by simp [hq])))).congr
            (fun i => ?_)
          cases hi : P[i]? <;> simp [rowAt, hi, ev_cons]; grind
      refine (this l hl).congr (fun i => ?_)
      cases hi : P[i]? with
      | none => simp [rowAt, hi]
      | some g => simpa [rowAt, hi, Val] using (e ⟨g, List.mem_of_getElem? hi⟩).symm
  · intro h
    rw [hangs_iff]
    have key : ∀ g : {g // g ∈ P}, ∃ i, P[i]? = some g.1 := fun g => by
      obtain ⟨i, hi, e⟩ := List.getElem_of_mem g.2
      exact ⟨i, by rw [List.getElem?_eq_getElem hi, e]⟩
    have e : ∀ (m : Nat) (g : {g // g ∈ P}), rowAt P m (Classical.choose (key g)) = Val (· ∈ P) m g := fun m g => by
      simp [rowAt, Classical.choose_spec (key g), Val]
    refine (h.at (T := Vals (· ∈ P) C) (fun g => Classical.choose (key g)) ?_).congr (e n)
    rintro s ⟨m, hm, rfl⟩
    exact (Span.of ⟨m, hm, rfl⟩).congr (fun g => (e m g).symm)

/-- The functions are free just by their values at the new numbers. -/
theorem Sought.rows {N : List Nat} (h : Sought G N) (hG : Closed G) {A : Fn → Prop} (hA : ∀ a, A a → Span G a) {f : Fn}
    (hf : Span G f) : Span A f ↔ Span (fun s => ∃ a, A a ∧ s = rowOf N a) (rowOf N f) := by
  constructor
  · intro h'
    have key : ∀ v, Span A v → Span (fun s => ∃ a, A a ∧ s = rowOf N a) (rowOf N v) := by
      intro v hv
      induction hv with
      | zero => exact Span.zero.congr (fun i => by cases hi : N[i]? <;> simp [rowOf, hi])
      | more a s w hs _ ih =>
        refine (Span.more a (rowOf N s) _ ⟨s, hs, rfl⟩ ih).congr (fun i => ?_)
        cases hi : N[i]? <;> simp [rowOf, hi]; grind
    exact key f h'
  · intro h'
    have key : ∀ v, Span (fun s => ∃ a, A a ∧ s = rowOf N a) v → ∃ w, Span A w ∧ ∀ i, v i = rowOf N w i := by
      intro v hv
      induction hv with
      | zero => exact ⟨_, .zero, fun i => by cases hi : N[i]? <;> simp [rowOf, hi]⟩
      | more a s w hs _ ih =>
        obtain ⟨b, hb, rfl⟩ := hs
        obtain ⟨u, hu, e⟩ := ih
        refine ⟨_, .more a b u hb hu, fun i => ?_⟩
        show a * rowOf N b i + w i = _
        rw [e i]
        cases hi : N[i]? <;> simp [rowOf, hi]; grind
    obtain ⟨w, hw, e⟩ := key _ h'
    refine hw.congr (fun n => ?_)
    have hd : Span G (fun n => (-1) * w n + f n) := ((hw.trans hA).smul (-1)).add hf
    have := h.zero hG hd n (fun m hm _ => by
      obtain ⟨i, hi, e'⟩ := List.getElem_of_mem hm
      have := e i
      simp only [rowOf, List.getElem?_eq_getElem hi, Option.map_some, Option.getD_some, e'] at this
      grind)
    grind

theorem mem_split_lt {N A B : List Nat} {n : Nat} (h : N.Pairwise (· < ·)) (e : N = A ++ n :: B) (q : Nat) :
    q ∈ A → q ∈ N ∧ q < n := by
  subst e
  intro hq
  exact ⟨by simp [hq], (List.pairwise_append.1 h).2.2 q hq n (by simp)⟩

/-- There are as many new numbers as there are free functions that make all. -/
theorem Sought.many {N : List Nat} {P : List Fn} (h : Sought (· ∈ P) N) (hs : N.Pairwise (· < ·)) (hG : Closed (· ∈ P))
    (hP : Free (fun _ => False) P) : N.length = P.length := by
  apply Nat.le_antisymm
  · have : ((N.map (rowAt P)).length : Nat) ≤ P.length := by
      refine free_width _ ?_ ?_
      · intro A g B e hg
        obtain ⟨A', B', e1, e2, e3⟩ := List.map_eq_append_iff.1 e
        obtain ⟨p, B'', e4, e5, e6⟩ := List.map_eq_cons_iff.1 e3
        subst e4 e5
        refine h.fresh p (by simp [e1]) (hangs_rows.2 (hg.mono ?_))
        rintro s (hs' | hs')
        · exact hs'.elim
        · rw [← e2] at hs'
          obtain ⟨q, hq, rfl⟩ := List.mem_map.1 hs'
          exact ⟨q, mem_split_lt hs e1 q hq, rfl⟩
      · intro v hv j hj
        obtain ⟨n, _, rfl⟩ := List.mem_map.1 hv
        exact rowAt_zero P n j hj
    simpa using this
  · have : ((P.map (rowOf N)).length : Nat) ≤ N.length := by
      refine free_width _ ?_ ?_
      · intro A g B e hg
        obtain ⟨A', B', e1, e2, e3⟩ := List.map_eq_append_iff.1 e
        obtain ⟨p, B'', e4, e5, e6⟩ := List.map_eq_cons_iff.1 e3
        subst e4 e5
        refine hP A' p B'' e1 (Span.mono (fun s hs => .inr hs) ?_)
        refine (h.rows hG (A := (· ∈ A')) (fun a ha => .of (by simp [e1, ha])) (.of (by simp [e1]))).2 (hg.mono ?_)
        rintro s (hs' | hs')
        · exact hs'.elim
        · rw [← e2] at hs'
          obtain ⟨q, hq, rfl⟩ := List.mem_map.1 hs'
          exact ⟨q, hq, rfl⟩
      · intro v hv j hj
        obtain ⟨f, _, rfl⟩ := List.mem_map.1 hv
        exact rowOf_zero N f j hj
    simpa using this

end L2.Halves
end S_HalvesNumbers
section S_HalvesMade
/- From the search to the least rule; ranks of functions that are told by lines; echelons. Pure. -/
namespace L2.Halves

/-- The search for basic parts with the rows of each of them is the least rule. -/
theorem Searched.least {f : Fn} {P : List (Nat × Nat)} {rows : List (List Rat × List Rat)} {firsts : List Rat}
    (h : Searched f P) (hs : Sorted P) (many : rows.length = P.length)
    (wide : ∀ i (_ : i < rows.length), rows[i].1.length = P.length ∧ rows[i].2.length = P.length)
    (tells : ∀ i (_ : i < rows.length) (_ : i < P.length) n,
      part f P[i].1 P[i].2 (2 * n) = lin rows[i].1 (partsOf f P) n ∧
      part f P[i].1 P[i].2 (2 * n + 1) = lin rows[i].2 (partsOf f P) n)
    (starts : firsts = (partsOf f P).map (· 0)) : Least f P rows firsts :=
  { sorted := hs, basic := h.basic, free := h.free hs, many := many, wide := wide, tells := tells, starts := starts
    whole := by
      have := h.upTo 0 0 (by simp)
      rw [part_zero] at this
      refine this.mono ?_
      rintro s ⟨q, hq, _, rfl⟩
      exact List.mem_map.2 ⟨q, hq, rfl⟩ }

/-- All parts of a function are combinations of functions of a closed kind, if it is one. -/
theorem part_span {G : Fn → Prop} (hG : Closed G) {f : Fn} (hf : Span G f) : ∀ k r, r < 2 ^ k → Span G (part f k r)
  | 0, r, hr => by
    have : r = 0 := by simp at hr; omega
    subst this
    rw [part_zero]; exact hf
  | k + 1, r, hr => by
    obtain ⟨d, r', hd, hr', e⟩ : ∃ d r', d < 2 ∧ r' < 2 ^ k ∧ r = r' + d * 2 ^ k := by
      rw [Nat.pow_succ] at hr
      by_cases c : r < 2 ^ k
      · exact ⟨0, r, by omega, c, by omega⟩
      · exact ⟨1, r - 2 ^ k, by omega, by omega, by omega⟩
    subst e
    rw [← half_part]
    exact (part_span hG hf k r' hr').half d (fun s hs => hG s hs d hd)

theorem Span.closed {G : Fn → Prop} (hG : Closed G) {g : Fn} (hg : Span G g) (d : Nat) (hd : d < 2) : Span G (L2.Halves.half g d) :=
  hg.half d (fun s hs => hG s hs d hd)

/-- The rank is at most the number of functions of which all parts are combinations. -/
theorem Least.rank_le {f : Fn} {P : List (Nat × Nat)} {rows : List (List Rat × List Rat)} {firsts : List Rat}
    (h : Least f P rows firsts) (M : List Fn) (hM : ∀ k r, r < 2 ^ k → Span (· ∈ M) (part f k r)) :
    P.length ≤ M.length := by
  have := free_le (partsOf f P) M (fun _ => False) h.free (fun g hg => by
    obtain ⟨p, hp, rfl⟩ := List.mem_map.1 hg
    exact (hM p.1 p.2 ((h.basic p).1 hp).1).mono (fun s hs => .inr hs))
  simpa [partsOf] using this

/-- The parts of the least rule are closed. -/
theorem Least.closed {f : Fn} {P : List (Nat × Nat)} {rows : List (List Rat × List Rat)} {firsts : List Rat}
    (h : Least f P rows firsts) : Closed (· ∈ partsOf f P) := by
  intro g hg d hd
  obtain ⟨i, hi, e⟩ := List.getElem_of_mem hg
  have hi' : i < P.length := by simpa [partsOf] using hi
  have hr : i < rows.length := by rw [h.many]; exact hi'
  have eg : g = part f P[i].1 P[i].2 := by rw [← e]; simp [partsOf]
  rcases (by omega : d = 0 ∨ d = 1) with rfl | rfl
  · exact (lin_span rows[i].1 (partsOf f P)).congr (fun n => by
      rw [eg]; exact (h.tells i hr hi' n).1.symm)
  · exact (lin_span rows[i].2 (partsOf f P)).congr (fun n => by
      rw [eg]; exact (h.tells i hr hi' n).2.symm)

/-- Numbers that are new one by one for some functions are no more than the functions of which these are combinations. -/
theorem fresh_le {G : Fn → Prop} {N : List Nat} {M : List Fn} (hs : N.Pairwise (· < ·))
    (fresh : ∀ n, n ∈ N → ¬ Hangs G (fun m => m ∈ N ∧ m < n) n) (hM : ∀ g, G g → Span (· ∈ M) g) :
    N.length ≤ M.length := by
  have : ((N.map (rowAt M)).length : Nat) ≤ M.length := by
    refine free_width _ ?_ ?_
    · intro A g B e hg
      obtain ⟨A', B', e1, e2, e3⟩ := List.map_eq_append_iff.1 e
      obtain ⟨p, B'', e4, e5, e6⟩ := List.map_eq_cons_iff.1 e3
      subst e4 e5
      refine fresh p (by simp [e1]) (Hangs.span (hangs_rows.2 (hg.mono ?_)) hM)
      rintro s (hs' | hs')
      · exact hs'.elim
      · rw [← e2] at hs'
        obtain ⟨q, hq, rfl⟩ := List.mem_map.1 hs'
        exact ⟨q, mem_split_lt hs e1 q hq, rfl⟩
    · intro v hv j hj
      obtain ⟨n, _, rfl⟩ := List.mem_map.1 hv
      exact rowAt_zero M n j hj
  simpa using this

/-! ### Echelons -/

/-- Pairs of a place and a row that is not 0 there, while all later rows are. -/
def Ech : List (Nat × Vec Nat) → Prop
  | [] => True
  | (p, r) :: E => r p ≠ 0 ∧ (∀ q, q ∈ E → q.2 p = 0) ∧ Ech E

def rowsOf (E : List (Nat × Vec Nat)) : List (Vec Nat) := E.map (·.2)

/-- A multiple of v, not by 0, less a combination of the rows, that is 0 at all their places. -/
def Red (E : List (Nat × Vec Nat)) (v u : Vec Nat) : Prop :=
  (∃ k w, k ≠ 0 ∧ Span (· ∈ rowsOf E) w ∧ ∀ i, u i = k * v i + w i) ∧ ∀ q, q ∈ E → u q.1 = 0

theorem ech_zero : ∀ (E : List (Nat × Vec Nat)) (u : Vec Nat), Ech E → Span (· ∈ rowsOf E) u → (∀ q, q ∈ E → u q.1 = 0) →
    ∀ i, u i = 0
  | [], u, _, h, _ => (h.mono (T := fun _ => False) (fun s hs => by simp [rowsOf] at hs)).empty
  | (p, r) :: E, u, hE, h, hz => by
    obtain ⟨h1, h2, h3⟩ := hE
    obtain ⟨c, w, hw, e⟩ := (h.mono (T := fun x => x = r ∨ x ∈ rowsOf E) (fun s hs => by
      simpa [rowsOf] using hs)).cons
    have wp : w p = 0 := hw.zero_at p (fun s hs => by
      obtain ⟨q, hq, rfl⟩ := List.mem_map.1 hs
      exact h2 q hq)
    have up := hz (p, r) (by simp)
    have hc : c = 0 := by
      have := e p
      rw [up, wp] at this
      have h' : c * r p = 0 := by grind
      rcases Rat.mul_eq_zero.1 h' with h' | h'
      · exact h'
      · exact absurd h' h1
    have eu : ∀ n, u n = w n := fun n => by rw [e n, hc]; grind
    have hu : Span (· ∈ rowsOf E) u := hw.congr (fun n => (eu n).symm)
    exact ech_zero E u h3 hu (fun q hq => hz q (by simp [hq]))

theorem Red.iff {E : List (Nat × Vec Nat)} {v u : Vec Nat} (h : Red E v u) (hE : Ech E) :
    Span (· ∈ rowsOf E) v ↔ ∀ i, u i = 0 := by
  obtain ⟨⟨k, w, hk, hw, e⟩, hz⟩ := h
  constructor
  · intro hv
    exact ech_zero E u hE (((hv.smul k).add hw).congr (fun i => (e i).symm)) hz
  · intro h0
    exact (hw.smul (-1 / k)).congr (fun i => by
      have := e i
      rw [h0 i] at this
      grind)

theorem ech_snoc : ∀ (E : List (Nat × Vec Nat)) (p : Nat) (u : Vec Nat), Ech E → (∀ q, q ∈ E → u q.1 = 0) → u p ≠ 0 →
    Ech (E ++ [(p, u)])
  | [], p, u, _, _, hp => ⟨hp, by simp, trivial⟩
  | (q, r) :: E, p, u, hE, hz, hp => by
    obtain ⟨h1, h2, h3⟩ := hE
    refine ⟨h1, fun q' hq' => ?_, ech_snoc E p u h3 (fun q' hq' => hz q' (by simp [hq'])) hp⟩
    rcases List.mem_append.1 hq' with h | h
    · exact h2 q' h
    · simp at h; subst h; exact hz (q, r) (by simp)

theorem Red.snoc {E : List (Nat × Vec Nat)} {v u : Vec Nat} (h : Red E v u) (hE : Ech E) {p : Nat} (hp : u p ≠ 0) :
    Ech (E ++ [(p, u)]) ∧ ∀ x, Span (· ∈ rowsOf (E ++ [(p, u)])) x ↔ Span (fun s => s = v ∨ s ∈ rowsOf E) x := by
  refine ⟨ech_snoc E p u hE h.2 hp, fun x => ?_⟩
  obtain ⟨⟨k, w, hk, hw, e⟩, hz⟩ := h
  have em : ∀ s, s ∈ rowsOf (E ++ [(p, u)]) ↔ s ∈ rowsOf E ∨ s = u := fun s => by simp [rowsOf]
  constructor
  · intro hx
    refine hx.trans (fun s hs => ?_)
    rcases (em s).1 hs with h | h
    · exact .of (.inr h)
    · subst h
      exact (((Span.of (.inl rfl)).smul k).add (hw.mono (fun t ht => .inr ht))).congr (fun i => (e i).symm)
  · intro hx
    refine hx.trans (fun s hs => ?_)
    rcases hs with h | h
    · subst h
      have h1 : Span (· ∈ rowsOf (E ++ [(p, u)])) (fun i => (1 / k) * u i) := (Span.of ((em u).2 (.inr rfl))).smul _
      have h2 : Span (· ∈ rowsOf (E ++ [(p, u)])) (fun i => (-1 / k) * w i) :=
        (hw.mono (fun t ht => (em t).2 (.inl ht))).smul _
      exact (h1.add h2).congr (fun i => by have := e i; grind)
    · exact .of ((em s).2 (.inl h))

/-- One step of the way: cleared by the row at its place. -/
theorem Red.step {E : List (Nat × Vec Nat)} {p : Nat} {r v u : Vec Nat} {k l : Rat} (h : Red E v u) (hE : ∀ q, q ∈ E → r q.1 = 0)
    (hk : k ≠ 0) (u' : Vec Nat) (e : ∀ i, u' i = k * u i - l * r i) (hp : u' p = 0) : Red (E ++ [(p, r)]) v u' := by
  obtain ⟨⟨k', w, hk', hw, e'⟩, hz⟩ := h
  have em : ∀ s, s ∈ rowsOf (E ++ [(p, r)]) ↔ s ∈ rowsOf E ∨ s = r := fun s => by simp [rowsOf]
  refine ⟨⟨k * k', _, ?_, ((hw.mono (fun t ht => (em t).2 (.inl ht))).smul k).add
    ((Span.of ((em r).2 (.inr rfl))).smul (-l)), fun i => ?_⟩, fun q hq => ?_⟩
  · intro h0; rcases Rat.mul_eq_zero.1 h0 with h | h
    · exact hk h
    · exact hk' h
  · rw [e i, e' i]; grind
  · rcases List.mem_append.1 hq with h | h
    · rw [e, hz q h, hE q h]; grind
    · simp at h; subst h; exact hp

end L2.Halves
end S_HalvesMade
section S_HalvesRows
/- Sparse rows of integers as lists of pairs (index, integer) in the order of insertion: get, put, trimmed, cleared,
reduced, least index; and that they are echelon steps. Pure. -/
namespace L2.Halves

abbrev Row := List (Nat × Int)

/-- The integer at an index, 0 where there is none. -/
def get : Row → Nat → Int
  | [], _ => 0
  | (k, v) :: r, i => if k = i then v else get r i

def has (r : Row) (i : Nat) : Bool := r.any (fun p => p.1 == i)

/-- A store: in its place, or behind all others. -/
def put : Row → Nat → Int → Row
  | [], i, w => [(i, w)]
  | (k, v) :: r, i, w => if k = i then (k, w) :: r else (k, v) :: put r i w

def keys (r : Row) : List Nat := r.map (·.1)

/-- No index twice, no 0. -/
structure Clean (r : Row) : Prop where
  nodup : (keys r).Nodup
  nz : ∀ p, p ∈ r → p.2 ≠ 0

theorem get_of_not_mem : ∀ (r : Row) (i : Nat), i ∉ keys r → get r i = 0
  | [], _, _ => rfl
  | (k, v) :: r, i, h => by
    have h1 : ¬ i = k ∧ i ∉ keys r := by simpa [keys] using h
    simp only [get]
    rw [if_neg (fun e => h1.1 e.symm)]
    exact get_of_not_mem r i h1.2

theorem get_of_mem : ∀ (r : Row) (p : Nat × Int), (keys r).Nodup → p ∈ r → get r p.1 = p.2
  | [], _, _, h => by simp at h
  | (k, v) :: r, p, hn, h => by
    have hn' : k ∉ keys r ∧ (keys r).Nodup := by simpa [keys] using hn
    rcases List.mem_cons.1 h with e | h
    · subst e; simp [get]
    · have : k ≠ p.1 := fun e => hn'.1 (e ▸ List.mem_map.2 ⟨p, h, rfl⟩)
      simp only [get, if_neg this]
      exact get_of_mem r p hn'.2 h

theorem mem_keys_of_get {r : Row} {i : Nat} (h : get r i ≠ 0) : i ∈ keys r :=
  Classical.byContradiction (fun hn => h (get_of_not_mem r i hn))

theorem Clean.get_ne {r : Row} (h : Clean r) {i : Nat} : get r i ≠ 0 ↔ i ∈ keys r := by
  constructor
  · exact mem_keys_of_get
  · intro hi
    obtain ⟨p, hp, rfl⟩ := List.mem_map.1 hi
    rw [get_of_mem r p h.nodup hp]
    exact h.nz p hp

theorem has_iff (r : Row) (i : Nat) : has r i = true ↔ i ∈ keys r := by
  simp [has, keys]

theorem get_put : ∀ (r : Row) (i : Nat) (w : Int) (j : Nat), get (put r i w) j = if j = i then w else get r j
  | [], i, w, j => by
    simp only [put, get]
    by_cases e : i = j
    · simp [e]
    · simp [e, Ne.symm e]
  | (k, v) :: r, i, w, j => by
    simp only [put]
    by_cases e : k = i
    · subst e
      simp only [if_true, get]
      by_cases e' : k = j
      · simp [e']
      · simp [e', Ne.symm e']
    · simp only [if_neg e, get, get_put r i w j]
      by_cases e' : k = j
      · subst e'; simp [e]
      · simp [e']

theorem mem_keys_put : ∀ (r : Row) (i : Nat) (w : Int) (j : Nat), j ∈ keys (put r i w) ↔ j = i ∨ j ∈ keys r
  | [], i, w, j => by simp [put, keys]
  | (k, v) :: r, i, w, j => by
    simp only [put]
    by_cases e : k = i
    · subst e; simp [keys]
    · have := mem_keys_put r i w j
      simp only [if_neg e, keys, List.map_cons, List.mem_cons] at this ⊢
      rw [this]
      constructor <;> (intro h; rcases h with h | h | h <;> simp [h])

theorem nodup_put : ∀ (r : Row) (i : Nat) (w : Int), (keys r).Nodup → (keys (put r i w)).Nodup
  | [], i, w, _ => by simp [put, keys]
  | (k, v) :: r, i, w, h => by
    have h' : k ∉ keys r ∧ (keys r).Nodup := by simpa [keys] using h
    simp only [put]
    by_cases e : k = i
    · subst e; simp only [if_true]; simpa [keys] using h'
    · simp only [if_neg e]
      have h1 := nodup_put r i w h'.2
      have h2 : k ∉ keys (put r i w) := fun hk => by
        rcases (mem_keys_put r i w k).1 hk with h | h
        · exact e h
        · exact h'.1 h
      simpa [keys] using And.intro h2 h1

/-- The greatest common divisor of a row, as it is worked out: it ends at 1. -/
def common : Row → Nat → Nat
  | [], c => c
  | (_, v) :: r, c => if Int.gcd c v = 1 then 1 else common r (Int.gcd c v)

theorem common_dvd : ∀ (r : Row) (c : Nat), (common r c : Int) ∣ c ∧ ∀ p, p ∈ r → (common r c : Int) ∣ p.2
  | [], c => ⟨Int.dvd_refl _, by simp⟩
  | (k, v) :: r, c => by
    simp only [common]
    by_cases e : Int.gcd c v = 1
    · simp only [if_pos e]
      refine ⟨⟨(c : Int), by simp⟩, fun p _ => ⟨p.2, by simp⟩⟩
    · simp only [if_neg e]
      have ih := common_dvd r (Int.gcd c v)
      refine ⟨Int.dvd_trans ih.1 (Int.gcd_dvd_left ..), fun p hp => ?_⟩
      rcases List.mem_cons.1 hp with h | h
      · subst h; exact Int.dvd_trans ih.1 (Int.gcd_dvd_right ..)
      · exact ih.2 p h

theorem common_pos : ∀ (r : Row) (c : Nat), (0 < c ∨ ∃ p, p ∈ r ∧ p.2 ≠ 0) → 0 < common r c
  | [], c, h => by rcases h with h | ⟨p, hp, _⟩ <;> simp_all [common]
  | (k, v) :: r, c, h => by
    simp only [common]
    by_cases e : Int.gcd c v = 1
    · simp [e]
    · simp only [if_neg e]
      refine common_pos r _ ?_
      by_cases h0 : 0 < Int.gcd c v
      · exact .inl h0
      · right
        have h0' : Int.gcd (c : Int) v = 0 := by omega
        rw [Int.gcd_eq_zero_iff] at h0'
        rcases h with h | ⟨p, hp, hv⟩
        · omega
        · rcases List.mem_cons.1 hp with h | h
          · subst h; exact absurd h0'.2 hv
          · exact ⟨p, h, hv⟩

/-- Without zeros, divided by what divides all of it. -/
def trimmed (r : Row) : Row :=
  (r.filter (fun p => p.2 != 0)).map (fun p => (p.1, p.2 / (common r 0 : Int)))

theorem keys_trimmed_sub (r : Row) : (keys (trimmed r)).Sublist (keys r) := by
  simp only [keys, trimmed, List.map_map, Function.comp_def]
  exact (List.filter_sublist).map _

theorem get_map_filter (c : Int) : ∀ (r : Row) (i : Nat), (keys r).Nodup →
    get ((r.filter (fun p => p.2 != 0)).map (fun p => (p.1, p.2 / c))) i = get r i / c
  | [], i, _ => by simp [get]
  | (k, v) :: r, i, h => by
    have h' : k ∉ keys r ∧ (keys r).Nodup := by simpa [keys] using h
    have ih := get_map_filter c r i h'.2
    by_cases hv : v = 0
    · subst hv
      simp only [List.filter_cons, bne_self_eq_false, Bool.false_eq_true, if_false, ih, get]
      by_cases e : k = i
      · subst e; rw [if_pos rfl, get_of_not_mem r k h'.1]
      · rw [if_neg e]
    · have : (v != 0) = true := by simpa using hv
      simp only [List.filter_cons, this, if_true, List.map_cons, get]
      by_cases e : k = i
      · simp [e]
      · simp [e, ih]

theorem trimmed_spec (r : Row) (h : (keys r).Nodup) :
    Clean (trimmed r) ∧ (∃ c : Int, 0 < c ∧ ∀ i, c * get (trimmed r) i = get r i) := by
  by_cases hz : ∃ p, p ∈ r ∧ p.2 ≠ 0
  · have hp : 0 < common r 0 := common_pos r 0 (.inr hz)
    have hd := (common_dvd r 0).2
    refine ⟨⟨(keys_trimmed_sub r).nodup h, fun p hp' => ?_⟩, common r 0, by omega, fun i => ?_⟩
    · obtain ⟨q, hq, rfl⟩ := List.mem_map.1 hp'
      have hq' := List.mem_filter.1 hq
      have hq2 : q.2 ≠ 0 := by simpa using hq'.2
      obtain ⟨t, ht⟩ := hd q hq'.1
      have hc : (common r 0 : Int) ≠ 0 := by omega
      show q.2 / (common r 0 : Int) ≠ 0
      rw [ht, Int.mul_ediv_cancel_left _ hc]
      intro h0; rw [h0] at ht; simp at ht; exact hq2 ht
    · show (common r 0 : Int) * get ((r.filter (fun p => p.2 != 0)).map (fun p => (p.1, p.2 / (common r 0 : Int)))) i = _
      rw [get_map_filter _ _ _ h]
      by_cases hi : i ∈ keys r
      · obtain ⟨p, hp', rfl⟩ := List.mem_map.1 hi
        rw [get_of_mem r p h hp']
        exact Int.mul_ediv_cancel' (hd p hp')
      · rw [get_of_not_mem r i hi]; simp
  · have hz' : ∀ p, p ∈ r → p.2 = 0 := fun p hp => Classical.byContradiction (fun hn => hz ⟨p, hp, hn⟩)
    have e : trimmed r = [] := by
      simp only [trimmed, List.map_eq_nil_iff, List.filter_eq_nil_iff]
      intro p hp; simp [hz' p hp]
    rw [e]
    refine ⟨⟨by simp [keys], by simp⟩, 1, by decide, fun i => ?_⟩
    by_cases hi : i ∈ keys r
    · obtain ⟨p, hp', rfl⟩ := List.mem_map.1 hi
      rw [get_of_mem r p h hp', hz' p hp']; simp [get]
    · rw [get_of_not_mem r i hi]; simp [get]

/-- The first loop: all items times a number. -/
def timesRow (t : Int) (r : Row) : Row := r.map (fun p => (p.1, t * p.2))

theorem keys_times (t : Int) (r : Row) : keys (timesRow t r) = keys r := by simp [keys, timesRow]

theorem get_times (t : Int) : ∀ (r : Row) (i : Nat), get (timesRow t r) i = t * get r i
  | [], i => by simp [timesRow, get]
  | (k, v) :: r, i => by
    have := get_times t r i
    simp only [timesRow, List.map_cons, get] at this ⊢
    by_cases e : k = i
    · simp [e]
    · simp [e, this]

/-- The second loop: less so many times the other row. -/
def lessRow (m : Int) (mixed : Row) : Row → Row
  | [] => mixed
  | (k, v) :: r => lessRow m (put mixed k (get mixed k - m * v)) r

theorem nodup_less (m : Int) : ∀ (r mixed : Row), (keys mixed).Nodup → (keys (lessRow m mixed r)).Nodup
  | [], _, h => h
  | (k, v) :: r, mixed, h => nodup_less m r _ (nodup_put mixed k _ h)

theorem get_less (m : Int) : ∀ (r mixed : Row) (i : Nat), (keys r).Nodup →
    get (lessRow m mixed r) i = get mixed i - m * get r i
  | [], mixed, i, _ => by simp [lessRow, get]
  | (k, v) :: r, mixed, i, h => by
    have h' : k ∉ keys r ∧ (keys r).Nodup := by simpa [keys] using h
    simp only [lessRow, get_less m r _ i h'.2, get_put, get]
    by_cases e : k = i
    · subst e; rw [if_pos rfl, if_pos rfl, get_of_not_mem r k h'.1]; simp
    · rw [if_neg (Ne.symm e), if_neg e]

/-- A multiple of the row less one of the other, so that it is 0 at the pivot. -/
def cleared (row other : Row) (p : Nat) : Row :=
  let c : Int := Int.gcd (get row p) (get other p)
  trimmed (lessRow (get row p / c) (timesRow (get other p / c) row) other)

/-- The row as a vector of fractions. -/
def val (r : Row) : Vec Nat := fun i => (get r i : Rat)

theorem val_zero {r : Row} {i : Nat} : val r i = 0 ↔ get r i = 0 := by
  simp [val, Rat.intCast_eq_zero_iff]

theorem cleared_spec {row other : Row} (h1 : Clean row) (h2 : Clean other) (p : Nat) (hp : get row p ≠ 0)
    (hq : get other p ≠ 0) :
    Clean (cleared row other p) ∧ get (cleared row other p) p = 0 ∧
    ∃ k l : Rat, k ≠ 0 ∧ ∀ i, val (cleared row other p) i = k * val row i - l * val other i := by
  have hc : (0 : Int) < Int.gcd (get row p) (get other p) := by
    have : Int.gcd (get row p) (get other p) ≠ 0 := by
      intro h; rw [Int.gcd_eq_zero_iff] at h; exact hp h.1
    omega
  generalize hcc : (Int.gcd (get row p) (get other p) : Int) = c at hc
  obtain ⟨s, hs⟩ : c ∣ get row p := hcc ▸ Int.gcd_dvd_left ..
  obtain ⟨t, ht⟩ : c ∣ get other p := hcc ▸ Int.gcd_dvd_right ..
  have es : get row p / c = s := by rw [hs, Int.mul_ediv_cancel_left _ (by omega)]
  have et : get other p / c = t := by rw [ht, Int.mul_ediv_cancel_left _ (by omega)]
  have hn : (keys (lessRow s (timesRow t row) other)).Nodup :=
    nodup_less s other _ (by rw [keys_times]; exact h1.nodup)
  obtain ⟨hcl, d, hd, e⟩ := trimmed_spec _ hn
  have ecl : cleared row other p = trimmed (lessRow s (timesRow t row) other) := by
    simp only [cleared, hcc, es, et]
  have e' : ∀ i, d * get (cleared row other p) i = t * get row i - s * get other i := fun i => by
    rw [ecl, e i, get_less s other _ i h2.nodup, get_times]
  have ht0 : t ≠ 0 := by intro h; rw [h] at ht; simp at ht; exact hq ht
  refine ⟨ecl ▸ hcl, ?_, (t : Rat) / d, (s : Rat) / d, ?_, fun i => ?_⟩
  · have := e' p
    rw [hs, ht] at this
    have h0 : d * get (cleared row other p) p = 0 := by rw [this]; grind
    rcases Int.mul_eq_zero.1 h0 with h | h
    · omega
    · exact h
  · have h1 : (t : Rat) ≠ 0 := by simpa [Rat.intCast_eq_zero_iff] using ht0
    have h2 : (d : Rat) ≠ 0 := by simpa [Rat.intCast_eq_zero_iff] using (show d ≠ 0 by omega)
    intro h; apply h1; grind
  · have := congrArg (fun x : Int => (x : Rat)) (e' i)
    simp only [Rat.intCast_mul, Rat.intCast_sub] at this
    have h2 : (d : Rat) ≠ 0 := by simpa [Rat.intCast_eq_zero_iff] using (show d ≠ 0 by omega)
    show (get (cleared row other p) i : Rat) = _ * (get row i : Rat) - _ * (get other i : Rat)
    grind

/-- By all rows of an echelon, one behind the other. -/
def reduced (row : Row) : List (Nat × Row) → Row
  | [] => row
  | (p, r) :: E => reduced (if has row p then cleared row r p else row) E

def vals (E : List (Nat × Row)) : List (Nat × Vec Nat) := E.map (fun q => (q.1, val q.2))

theorem ech_head {p : Nat} {r : Vec Nat} {E : List (Nat × Vec Nat)} (h : Ech ((p, r) :: E)) : r p ≠ 0 := h.1

theorem ech_later : ∀ (A : List (Nat × Vec Nat)) (q : Nat × Vec Nat) (B : List (Nat × Vec Nat)), Ech (A ++ q :: B) →
    (∀ a, a ∈ A → q.2 a.1 = 0) ∧ q.2 q.1 ≠ 0
  | [], q, B, h => ⟨by simp, h.1⟩
  | (p, r) :: A, q, B, h => by
    obtain ⟨_, h2, h3⟩ := h
    have ih := ech_later A q B h3
    refine ⟨fun a ha => ?_, ih.2⟩
    rcases List.mem_cons.1 ha with e | e
    · subst e; exact h2 q (by simp)
    · exact ih.1 a e

theorem reduced_aux : ∀ (E A : List (Nat × Row)) (row0 : Vec Nat) (row : Row), Ech (vals (A ++ E)) →
    (∀ q, q ∈ A ++ E → Clean q.2) → Clean row → Red (vals A) row0 (val row) →
    Clean (reduced row E) ∧ Red (vals (A ++ E)) row0 (val (reduced row E))
  | [], A, row0, row, _, _, hr, h => by rw [List.append_nil]; exact ⟨hr, h⟩
  | (p, r) :: E, A, row0, row, hE, hc, hr, h => by
    have hl := ech_later (vals A) (p, val r) (vals E) (by simpa [vals] using hE)
    have hz : ∀ q, q ∈ vals A → val r q.1 = 0 := hl.1
    have hrp : get r p ≠ 0 := fun e => hl.2 (val_zero.2 e)
    have hcr : Clean r := hc (p, r) (by simp)
    have ea : vals (A ++ [(p, r)]) = vals A ++ [(p, val r)] := by simp [vals]
    simp only [reduced]
    have fin : ∀ row' : Row, Clean row' → Red (vals (A ++ [(p, r)])) row0 (val row') →
        Clean (reduced row' E) ∧ Red (vals (A ++ (p, r) :: E)) row0 (val (reduced row' E)) := fun row' h1 h2 => by
      have := reduced_aux E (A ++ [(p, r)]) row0 row' (by simpa using hE) (by simpa using hc) h1 h2
      simpa using this
    by_cases hh : has row p = true
    · rw [if_pos hh]
      have hrow : get row p ≠ 0 := hr.get_ne.2 ((has_iff row p).1 hh)
      obtain ⟨c1, c2, k, l, hk, e⟩ := cleared_spec hr hcr p hrow hrp
      exact fin _ c1 (ea ▸ h.step hz hk _ e (val_zero.2 c2))
    · rw [if_neg hh]
      have hrow : get row p = 0 := Classical.byContradiction (fun hn => hh ((has_iff row p).2 (hr.get_ne.1 hn)))
      refine fin _ hr (ea ▸ h.step (k := 1) (l := 0) hz (by decide) _ (fun i => by grind) (val_zero.2 hrow))

theorem red_nil (v : Vec Nat) : Red [] v v :=
  ⟨⟨1, _, by decide, .zero, fun i => by grind⟩, by simp⟩

/-- What comes out by an echelon: 0 just for what hangs on its rows. -/
theorem reduced_spec {E : List (Nat × Row)} {row : Row} (hE : Ech (vals E)) (hc : ∀ q, q ∈ E → Clean q.2) (hr : Clean row) :
    Clean (reduced row E) ∧ Red (vals E) (val row) (val (reduced row E)) :=
  reduced_aux E [] (val row) row hE hc hr (red_nil _)

/-- The least index below the width, as it is sought. -/
def leastFrom (r : Row) : Nat → Nat → Option Nat
  | _, 0 => none
  | at', m + 1 => if has r at' then some at' else leastFrom r (at' + 1) m

def leastIndex (r : Row) (width : Nat) : Option Nat := leastFrom r 0 width

theorem leastFrom_spec (r : Row) : ∀ (m a : Nat),
    (leastFrom r a m = none → ∀ i, a ≤ i → i < a + m → has r i = false) ∧
    (∀ p, leastFrom r a m = some p → a ≤ p ∧ p < a + m ∧ has r p = true ∧ ∀ i, a ≤ i → i < p → has r i = false)
  | 0, a => ⟨fun _ i h1 h2 => by omega, fun p h => by simp [leastFrom] at h⟩
  | m + 1, a => by
    have ih := leastFrom_spec r m (a + 1)
    simp only [leastFrom]
    by_cases h : has r a = true
    · simp only [if_pos h]
      refine ⟨fun h' => by simp at h', fun p hp => ?_⟩
      simp at hp; subst hp
      exact ⟨Nat.le_refl _, by omega, h, fun i h1 h2 => by omega⟩
    · simp only [if_neg h]
      refine ⟨fun h' i h1 h2 => ?_, fun p hp => ?_⟩
      · by_cases e : i = a
        · subst e; simpa using h
        · exact ih.1 h' i (by omega) (by omega)
      · obtain ⟨h1, h2, h3, h4⟩ := ih.2 p hp
        refine ⟨by omega, by omega, h3, fun i h5 h6 => ?_⟩
        by_cases e : i = a
        · subst e; simpa using h
        · exact h4 i (by omega) h6

/-- The row of a list of integers. -/
def sparseFrom : Nat → List Int → Row
  | _, [] => []
  | i, v :: vs => if v ≠ 0 then (i, v) :: sparseFrom (i + 1) vs else sparseFrom (i + 1) vs

def sparse (vs : List Int) : Row := sparseFrom 0 vs

theorem sparseFrom_keys : ∀ (vs : List Int) (i k : Nat), k ∈ keys (sparseFrom i vs) → i ≤ k ∧ k < i + vs.length
  | [], i, k, h => by simp [sparseFrom, keys] at h
  | v :: vs, i, k, h => by
    simp only [sparseFrom] at h
    by_cases hv : v ≠ 0
    · rw [if_pos hv] at h
      simp only [keys, List.map_cons, List.mem_cons] at h
      rcases h with h | h
      · simp; omega
      · have := sparseFrom_keys vs (i + 1) k h; simp; omega
    · rw [if_neg hv] at h
      have := sparseFrom_keys vs (i + 1) k h; simp; omega

theorem sparseFrom_clean : ∀ (vs : List Int) (i : Nat), Clean (sparseFrom i vs)
  | [], i => ⟨by simp [sparseFrom, keys], by simp [sparseFrom]⟩
  | v :: vs, i => by
    have ih := sparseFrom_clean vs (i + 1)
    simp only [sparseFrom]
    by_cases hv : v ≠ 0
    · rw [if_pos hv]
      refine ⟨?_, fun p hp => ?_⟩
      · have : i ∉ keys (sparseFrom (i + 1) vs) := fun h => by
          have := sparseFrom_keys vs (i + 1) i h; omega
        simpa [keys] using And.intro this ih.nodup
      · rcases List.mem_cons.1 hp with e | e
        · subst e; exact hv
        · exact ih.nz p e
    · rw [if_neg hv]; exact ih

theorem sparseFrom_get : ∀ (vs : List Int) (i j : Nat), get (sparseFrom i vs) (i + j) = (vs[j]?).getD 0
  | [], i, j => by simp [sparseFrom, get]
  | v :: vs, i, 0 => by
    simp only [sparseFrom]
    by_cases hv : v ≠ 0
    · rw [if_pos hv]; simp [get]
    · rw [if_neg hv]
      have : i ∉ keys (sparseFrom (i + 1) vs) := fun h => by
        have := sparseFrom_keys vs (i + 1) i h; omega
      show get (sparseFrom (i + 1) vs) i = _
      rw [get_of_not_mem _ _ this]
      have : v = 0 := Classical.byContradiction hv
      simp [this]
  | v :: vs, i, j + 1 => by
    have ih := sparseFrom_get vs (i + 1) j
    simp only [sparseFrom]
    have e : i + 1 + j = i + (j + 1) := by omega
    rw [e] at ih
    by_cases hv : v ≠ 0
    · rw [if_pos hv]
      simp only [get]
      rw [if_neg (by omega), ih]; simp
    · rw [if_neg hv, ih]; simp

theorem sparse_get (vs : List Int) (j : Nat) : get (sparse vs) j = (vs[j]?).getD 0 := by
  have := sparseFrom_get vs 0 j
  rwa [Nat.zero_add] at this

end L2.Halves
end S_HalvesRows
section S_G1
set_option maxRecDepth 100000
set_option maxHeartbeats 4000000
namespace L2.EH
open PySem PySem.Spec PyProof.Rows
open L2.Halves (has keys Clean leastFrom leastIndex sparseFrom put)
theorem same_tup {K : PySem.W.Frag} {H H' : Hp} {a : Addr} {xs : List V} (e : Same H H') (h : SqT K H a xs) : SqT K H' a xs := by
  rcases h with (h | ⟨o, h⟩) | h
  · exact .inl (.inl (e _ _ h))
  · exact .inl (.inr ⟨o, e _ _ h⟩)
  · exact .inr h
mutual
theorem dp_same {K : PySem.W.Frag} {H H' : Hp} (s : Same H H') : ∀ {v : V} {d : PyData}, Dp K H v d → Dp K H' v d
  | _, _, .non => .non
  | _, _, .bl b => .bl b
  | _, _, .int i => .int i
  | _, _, .str x => .str x
  | _, _, .lst h r => .lst (s.seq h) (dpAll_same s r)
  | _, _, .tup h r => .tup (same_tup s h) (dpAll_same s r)
theorem dpAll_same {K : PySem.W.Frag} {H H' : Hp} (s : Same H H') : ∀ {vs : List V} {ds : List PyData}, DpAll K H vs ds → DpAll K H' vs ds
  | _, _, .nil => .nil
  | _, _, .cons h r => .cons (dp_same s h) (dpAll_same s r)
end
theorem same_new {H : Hp} {p : Addr} {o : HO} (h : H p = none) : Same H (upd H p o) := fun b q e => by
  rw [upd_ne (by intro z; rw [z, h] at e; cases e)]; exact e
/-- a row as it stands in the heap -/
def rowK (r : Halves.Row) : List (Key × V) := r.map (fun p => (Sum.inl (p.1 : Int), V.int p.2))
theorem has_cons (k : Nat) (v : Int) (r : Halves.Row) (i : Nat) : has ((k, v) :: r) i = (k == i || has r i) := rfl
theorem get_cons (k : Nat) (v : Int) (r : Halves.Row) (i : Nat) : Halves.get ((k, v) :: r) i = if k = i then v else Halves.get r i := rfl
theorem rowK_cons (k : Nat) (v : Int) (r : Halves.Row) : rowK ((k, v) :: r) = (Sum.inl (k : Int), V.int v) :: rowK r := rfl
theorem valV_cons (k : Key) (v : V) (l : List (Key × V)) (x : Key) : valV ((k, v) :: l) x = if k = x then some v else valV l x := by
  unfold valV
  by_cases e : k = x
  · simp [e]
  · simp [e]
theorem valV_rowK : ∀ (r : Halves.Row) (i : Nat), valV (rowK r) (Sum.inl (i : Int)) = if has r i = true then some (.int (Halves.get r i)) else none
  | [], i => rfl
  | (k, v) :: r, i => by
    rw [rowK_cons, valV_cons, has_cons, get_cons, valV_rowK r i]
    by_cases e : k = i
    · subst e; simp
    · have e1 : ¬ (Sum.inl (k : Int) : Key) = Sum.inl (i : Int) := fun h => e (by injection h with h; omega)
      have e3 : (k == i) = false := by simpa using e
      rw [if_neg e1, if_neg e, e3, Bool.false_or]
theorem sparseFrom_snoc : ∀ (xs : List Int) (i : Nat) (v : Int), sparseFrom i (xs ++ [v]) = sparseFrom i xs ++ (if v ≠ 0 then [(i + xs.length, v)] else [])
  | [], i, v => by simp [sparseFrom]
  | x :: xs, i, v => by
    have ih := sparseFrom_snoc xs (i + 1) v
    simp only [List.cons_append, sparseFrom, ih, List.length_cons]
    have e : i + 1 + xs.length = i + (xs.length + 1) := by omega
    rw [e]
    by_cases hx : x ≠ 0 <;> simp [hx]
theorem rowK_append (a b : Halves.Row) : rowK (a ++ b) = rowK a ++ rowK b := by simp [rowK]
theorem rowK_length (r : Halves.Row) : (rowK r).length = r.length := by simp [rowK]
theorem valV_none_of {r : Halves.Row} {i : Nat} (h : i ∉ keys r) : valV (rowK r) (Sum.inl (i : Int)) = none := by
  rw [valV_rowK, if_neg (fun hh => h ((Halves.has_iff r i).1 hh))]
theorem putK_new {r : Halves.Row} {i : Nat} (h : i ∉ keys r) (v : Int) : putK (rowK r) (Sum.inl (i : Int)) (V.int v) = rowK (r ++ [(i, v)]) := by
  unfold putK
  rw [valV_any, valV_none_of h]
  rw [if_neg (by simp), rowK_append]; rfl
theorem sparseFrom_length : ∀ (xs : List Int) (i : Nat), (sparseFrom i xs).length ≤ xs.length
  | [], i => by simp [sparseFrom]
  | x :: xs, i => by
    have := sparseFrom_length xs (i + 1)
    simp only [sparseFrom]
    split <;> simp <;> omega
theorem for_keys {d : Addr} {o : Obj} {kvs : List (Key × V)} {g : TG} {tb : TS} {D : Ends} {σ : St} {H : Hp} (Pv : Nat → St → Hp → Prop) (h0 : Pv 0 σ H)
    (hl : ∀ i σ H, i ≤ kvs.length → Pv i σ H → H d = some (.frz o (.dK kvs)))
    (hs : ∀ i k v σ H, kvs[i]? = some (k, v) → Pv i σ H → g (kV k) σ H fun σ2 H2 => tb { D with nx := Pv (i + 1), ct := Pv (i + 1), bk := D.nx } σ2 H2)
    (hd : ∀ σ H, Pv kvs.length σ H → D.nx σ H) :
    ∃ W : Nat → Nat → St → Hp → Prop, (∃ m, W 0 m σ H) ∧ ∀ i m σ H, W i m σ H →
      ((Itk d o kvs).stop i H ∧ D.nx σ H) ∨ ((Itk d o kvs).go i H ∧ ∃ N : St → Hp → Prop, (∀ σ' H', N σ' H' → ∃ m', m' < m ∧ W (i + 1) m' σ' H') ∧ ∀ x H', (Itk d o kvs).yld i H x H' → g x σ H' fun σ2 H2 => tb { D with nx := N, ct := N, bk := D.nx } σ2 H2) := by
  refine ⟨fun i m σ H => m = kvs.length - i ∧ i ≤ kvs.length ∧ Pv i σ H, ⟨kvs.length, rfl, Nat.zero_le _, h0⟩, ?_⟩
  rintro i m σ H ⟨rfl, hi, p⟩
  have q := hl i σ H hi p
  by_cases hlt : i < kvs.length
  · refine .inr ⟨⟨q, hlt⟩, Pv (i + 1), fun σ' H' p' => ⟨kvs.length - (i + 1), by omega, rfl, hlt, p'⟩, fun x H' y => ?_⟩
    obtain ⟨rfl, k, v, e, rfl⟩ := y
    exact hs i k v σ _ e p
  · have e : i = kvs.length := by omega
    subst e
    exact .inl ⟨⟨q, Nat.le_refl _⟩, hd σ H p⟩
theorem rowK_get (r : Halves.Row) (i : Nat) (k : Key) (v : V) (h : (rowK r)[i]? = some (k, v)) : ∃ p, r[i]? = some p ∧ k = Sum.inl (p.1 : Int) ∧ v = V.int p.2 := by
  simp only [rowK, List.getElem?_map] at h
  cases hr : r[i]? with
  | none => rw [hr] at h; simp at h
  | some p => rw [hr] at h; simp at h; exact ⟨p, rfl, h.1.symm, h.2.symm⟩
theorem mapK_other (v : Int) (k : Nat) : ∀ l : Halves.Row, k ∉ keys l → (rowK l).map (fun kv => if kv.1 = Sum.inl (k : Int) then (kv.1, V.int v) else kv) = rowK l
  | [], _ => rfl
  | (k', x') :: l, h => by
    have h' : ¬ k = k' ∧ k ∉ keys l := by simpa [keys] using h
    rw [rowK_cons]
    simp only [List.map_cons]
    rw [mapK_other v k l h'.2, if_neg (fun e => h'.1 (by injection e with e; omega))]
theorem mapK_put (v : Int) (i : Nat) : ∀ r : Halves.Row, (keys r).Nodup → i ∈ keys r → (rowK r).map (fun kv => if kv.1 = Sum.inl (i : Int) then (kv.1, V.int v) else kv) = rowK (put r i v)
  | [], _, h => by simp [keys] at h
  | (k, x) :: r, hn, hi => by
    have hn' : k ∉ keys r ∧ (keys r).Nodup := by simpa [keys] using hn
    rw [rowK_cons]
    simp only [List.map_cons, put]
    by_cases e : k = i
    · subst e
      rw [if_pos rfl, if_pos rfl, rowK_cons, mapK_other v k r hn'.1]
    · have e1 : ¬ (Sum.inl (k : Int) : Key) = Sum.inl (i : Int) := fun h => e (by injection h with h; omega)
      have hi' : i ∈ keys r := by
        simp only [keys, List.map_cons, List.mem_cons] at hi
        rcases hi with h | h
        · exact absurd h.symm e
        · exact h
      rw [if_neg e1, if_neg e, rowK_cons, mapK_put v i r hn'.2 hi']
theorem putK_old {r : Halves.Row} {i : Nat} (v : Int) (hn : (keys r).Nodup) (hi : i ∈ keys r) : putK (rowK r) (Sum.inl (i : Int)) (V.int v) = rowK (put r i v) := by
  unfold putK
  rw [valV_any, valV_rowK, if_pos ((Halves.has_iff r i).2 hi), if_pos (show (some (V.int (Halves.get r i))).isSome = true from rfl), mapK_put v i r hn hi]
theorem putK_row {r : Halves.Row} {i : Nat} (v : Int) (hn : (keys r).Nodup) : putK (rowK r) (Sum.inl (i : Int)) (V.int v) = rowK (put r i v) := by
  by_cases hi : i ∈ keys r
  · exact putK_old v hn hi
  · rw [putK_new hi]
    congr 1
    clear hn
    induction r with
    | nil => rfl
    | cons q r ih =>
      obtain ⟨k, x⟩ := q
      have h' : ¬ i = k ∧ i ∉ keys r := by simpa [keys] using hi
      simp only [List.cons_append, put]
      rw [if_neg (fun e => h'.1 e.symm), ih h'.2]
theorem put_length : ∀ (r : Halves.Row) (i : Nat) (v : Int), (put r i v).length ≤ r.length + 1
  | [], _, _ => by simp [put]
  | (k, x) :: r, i, v => by
    have := put_length r i v
    simp only [put]
    split <;> simp <;> omega
theorem get_lt {r : Halves.Row} {n : Nat} (h : ∀ p, p ∈ r → p.2.natAbs < 2 ^ n) (hn : (keys r).Nodup) (i : Nat) : (Halves.get r i).natAbs < 2 ^ n := by
  by_cases hi : i ∈ keys r
  · obtain ⟨p, hp, rfl⟩ := List.mem_map.1 hi
    rw [Halves.get_of_mem r p hn hp]; exact h p hp
  · rw [Halves.get_of_not_mem r i hi]; exact Nat.pow_pos (by decide)
theorem getD_row (r : Halves.Row) (i : Nat) : (valV (rowK r) (Sum.inl (i : Int))).getD (V.int 0) = V.int (Halves.get r i) := by
  rw [valV_rowK]
  by_cases h : has r i = true
  · rw [if_pos h]; rfl
  · rw [if_neg h, Halves.get_of_not_mem r i (fun hm => h ((Halves.has_iff r i).2 hm))]; rfl
theorem take_snoc (r : Halves.Row) (i : Nat) (q : Nat × Int) (h : r[i]? = some q) : r.take (i + 1) = r.take i ++ [q] := by
  obtain ⟨hi, e⟩ := List.getElem?_eq_some_iff.1 h
  rw [List.take_succ_eq_append_getElem hi, e]
theorem take_new (r : Halves.Row) (i : Nat) (q : Nat × Int) (h : r[i]? = some q) (hn : (keys r).Nodup) : q.1 ∉ keys (r.take i) := by
  intro hm
  obtain ⟨hi, e⟩ := List.getElem?_eq_some_iff.1 h
  obtain ⟨q', hq2, eq⟩ := List.mem_map.1 hm
  obtain ⟨j, hj, ej⟩ := List.getElem_of_mem hq2
  have hji : j < i := by simp at hj; omega
  have hjr : j < r.length := by omega
  have e1 : r[j] = q' := by rw [← ej]; simp
  have hk : (keys r)[j]'(by simpa [keys] using hjr) = (keys r)[i]'(by simpa [keys] using hi) := by
    simp only [keys, List.getElem_map, e1, e]; exact eq
  have := (List.getElem_inj hn).1 hk
  omega
def tLockO (t : TS) : TS := fun D σ H => tLock t D σ H ∨ t D σ H
theorem ps_lockO {X : Cx} {st : Stmt} {t : TS} (h : PS X st t) : PS X st (tLockO t) :=
  ⟨fun pins s σ H D I hw => hw.elim (fun q => (ps_lock h).run pins s σ H D I q) (fun q => h.run pins s σ H D I q)⟩
theorem upd_self {H : Hp} {a : Addr} {o : HO} (h : H a = some o) : upd H a o = H := by
  funext b
  by_cases e : b = a
  · subst e; rw [upd_same, h]
  · rw [upd_ne e]
theorem upd_swap {H : Hp} {a b : Addr} {o q : HO} (h : a ≠ b) : upd (upd H a o) b q = upd (upd H b q) a o := by
  funext c
  by_cases e : c = a
  · subst e; rw [upd_ne h, upd_same, upd_same]
  · by_cases e2 : c = b
    · subst e2; rw [upd_same, upd_ne e, upd_same]
    · rw [upd_ne e2, upd_ne e, upd_ne e, upd_ne e2]
/-- a list of rows -/
def RowsAt (K : PySem.W.Frag) (H : Hp) (a : Addr) (M : List Halves.Row) : Prop := ∃ xs : List Addr, SqL K H a (xs.map V.ref) ∧ xs.length = M.length ∧ ∀ i (h : i < xs.length) (h' : i < M.length), H xs[i] = some (.dK (rowK M[i]))
theorem RowsAt.same {K : PySem.W.Frag} {H H' : Hp} {a : Addr} {M : List Halves.Row} (h : RowsAt K H a M) (s : Same H H') : RowsAt K H' a M := by
  obtain ⟨xs, h1, h2, h3⟩ := h
  exact ⟨xs, s.seq h1, h2, fun i p q => s _ _ (h3 i p q)⟩
/-- a def that is called: its promise, its binding, its name -/
structure Fn' (P : Program) (w : World) (K : PySem.W.Frag) (mg : Str → Option Value) (base : Heap) (k : Nat) (x : Str) (f : Addr) (fd : FuncData) (ps : List Str) (sp : Sp) : Prop where
  ok : FnOk P w K mg base CX0 k f fd ps sp
  b : Binds K fd ps []
  m : mg x = some (.ref f)
  k : PySem.W.keepIn K (.ref f) = true
theorem lc_out {J : It} {n : Nat} {G : Hp → Prop} {Y : Nat → Hp → V → Hp → Prop} (w : Walk J n G Y) {body : V → Hp → (Hp → Prop) → Prop} {H0 : Hp} {Qd : Hp → Prop} (Pv : Nat → Hp → Prop) (h0 : Pv 0 H0) (hG : ∀ i H, i ≤ n → Pv i H → G H)
    (hs : ∀ i x H H', i < n → Pv i H → Y i H x H' → body x H' (Pv (i + 1))) (hd : ∀ H, Pv n H → Qd H) :
    ∃ W : Nat → Nat → Hp → Prop, (∃ m, W 0 m H0) ∧ ∀ i m H, W i m H →
      (J.stop i H ∧ Qd H) ∨ (J.go i H ∧ ∃ Nx : Hp → Prop, (∀ H', Nx H' → ∃ m', m' < m ∧ W (i + 1) m' H') ∧ ∀ x H', J.yld i H x H' → body x H' Nx) := by
  refine ⟨fun i m H => m = n - i ∧ i ≤ n ∧ Pv i H, ⟨n, by simp, Nat.zero_le _, h0⟩, ?_⟩
  rintro i m H ⟨rfl, hi, p⟩
  have q := hG i H hi p
  by_cases hlt : i < n
  · exact .inr ⟨w.goes i H hlt q, Pv (i + 1), fun H' p' => ⟨n - (i + 1), by omega, rfl, hlt, p'⟩, fun x H' y => hs i x H H' hlt p (w.yields i H x H' hlt q y)⟩
  · have e : i = n := by omega
    subst e
    exact .inl ⟨w.stops H q, hd H p⟩
theorem dpAll_snoc {K : PySem.W.Frag} {H : Hp} {v : V} {d : PyData} (hv : Dp K H v d) : ∀ {vs : List V} {ds : List PyData}, DpAll K H vs ds → DpAll K H (vs ++ [v]) (ds ++ [d])
  | _, _, .nil => .cons hv .nil
  | _, _, .cons h r => .cons h (dpAll_snoc hv r)
def pairD (p : Int × Int) : PyData := .tuple [.int p.1, .int p.2]
theorem pair_dp {K : PySem.W.Frag} {H : Hp} {t : Addr} {p : Int × Int} (h : SqT K H t [.int p.1, .int p.2]) : Dp K H (.ref t) (pairD p) := .tup h (.cons (.int _) (.cons (.int _) .nil))
theorem row_dget {H : Hp} {a : Addr} {r : Halves.Row} {i : Nat} (ha : H a = some (.dK (rowK r))) (h : has r i = true) : DGet H a (.int (i : Int)) (some (.int (Halves.get r i))) :=
  .inl ⟨_, Sum.inl (i : Int), .inl ha, rfl, by rw [valV_rowK, if_pos h]⟩

mutual
def tupOnly : PyData → Bool
  | .list _ => false
  | .tuple ds => tupsOnly ds
  | _ => true
def tupsOnly : List PyData → Bool
  | [] => true
  | d :: ds => tupOnly d && tupsOnly ds
end
/-! ### tuples are never written -/
def isT : HO → Bool
  | .tup _ => true
  | .frz _ (.tup _) => true
  | _ => false
def KeepT (H H' : Hp) : Prop := ∀ b o, H b = some o → isT o = true → H' b = some o
theorem KeepT.refl (H : Hp) : KeepT H H := fun _ _ h _ => h
theorem KeepT.trans {H H1 H2 : Hp} (a : KeepT H H1) (b : KeepT H1 H2) : KeepT H H2 := fun c o h d => b c o (a c o h d) d
theorem keepT_same {H H' : Hp} (s : Same H H') : KeepT H H' := fun b o h _ => s b o h
theorem keepT_upd {H : Hp} {b : Addr} {q o : HO} (h : H b = some q) (hq : isT q = false) : KeepT H (upd H b o) := fun c r hc hd => by
  rw [upd_ne (by intro e; rw [e, h] at hc; cases hc; rw [hq] at hd; cases hd)]; exact hc
theorem tup_keepT {K : PySem.W.Frag} {H H' : Hp} {a : Addr} {xs : List V} (k : KeepT H H') (h : SqT K H a xs) : SqT K H' a xs := by
  rcases h with (h | ⟨o, h⟩) | h
  · exact .inl (.inl (k _ _ h rfl))
  · exact .inl (.inr ⟨o, k _ _ h rfl⟩)
  · exact .inr h
mutual
theorem dp_keep {K : PySem.W.Frag} {H H' : Hp} (k : KeepT H H') : ∀ {v : V} {d : PyData}, tupOnly d = true → Dp K H v d → Dp K H' v d
  | _, _, _, .non => .non
  | _, _, _, .bl b => .bl b
  | _, _, _, .int i => .int i
  | _, _, _, .str x => .str x
  | _, _, e, .lst h r => by simp [tupOnly] at e
  | _, _, e, .tup h r => .tup (tup_keepT k h) (dpAll_keep k (by simpa [tupOnly] using e) r)
theorem dpAll_keep {K : PySem.W.Frag} {H H' : Hp} (k : KeepT H H') : ∀ {vs : List V} {ds : List PyData}, tupsOnly ds = true → DpAll K H vs ds → DpAll K H' vs ds
  | _, _, _, .nil => .nil
  | _, _, e, .cons h r => .cons (dp_keep k (by simp [tupsOnly] at e; exact e.1) h) (dpAll_keep k (by simp [tupsOnly] at e; exact e.2) r)
end
theorem tupsOnly_map {α : Type} (f : α → PyData) (h : ∀ x, tupOnly (f x) = true) : ∀ xs : List α, tupsOnly (xs.map f) = true
  | [] => rfl
  | x :: xs => by simp [tupsOnly, h x, tupsOnly_map f h xs]
theorem pairD_tup (p : Int × Int) : tupOnly (pairD p) = true := rfl
/-! ### data of tuples: rows of ints, rows of pairs -/
def rowD (r : List Int) : PyData := .tuple (r.map .int)
def prowD (ps : List (Int × Int)) : PyData := .tuple (ps.map pairD)
def tupD {α : Type} (f : α → PyData) (xs : List α) : PyData := .tuple (xs.map f)
theorem rowD_tup (r : List Int) : tupOnly (rowD r) = true := by
  show tupsOnly _ = true
  exact tupsOnly_map PyData.int (fun _ => rfl) r
theorem tupD_tup {α : Type} {f : α → PyData} (h : ∀ x, tupOnly (f x) = true) (xs : List α) : tupOnly (tupD f xs) = true := tupsOnly_map f h xs
theorem prowD_tup (r : List (Int × Int)) : tupOnly (prowD r) = true := tupsOnly_map pairD pairD_tup r
section
variable {K : PySem.W.Frag} {H : Hp}
theorem dpAll_len : ∀ {vs : List V} {ds : List PyData}, DpAll K H vs ds → vs.length = ds.length
  | _, _, .nil => rfl
  | _, _, .cons _ r => by simp [dpAll_len r]
theorem dpAll_get : ∀ {vs : List V} {ds : List PyData}, DpAll K H vs ds → ∀ {i : Nat} {d : PyData}, ds[i]? = some d → ∃ v, vs[i]? = some v ∧ Dp K H v d
  | _, _, .cons h r, 0, d, e => ⟨_, rfl, by cases e; exact h⟩
  | _, _, .cons h r, i + 1, d, e => by
    obtain ⟨v, e1, e2⟩ := dpAll_get r (i := i) (d := d) (by simpa using e)
    exact ⟨v, by simpa using e1, e2⟩
theorem dpAll_get' : ∀ {vs : List V} {ds : List PyData}, DpAll K H vs ds → ∀ {i : Nat} {v : V}, vs[i]? = some v → ∃ d, ds[i]? = some d ∧ Dp K H v d
  | _, _, .cons h r, 0, d, e => ⟨_, rfl, by cases e; exact h⟩
  | _, _, .cons h r, i + 1, d, e => by
    obtain ⟨v, e1, e2⟩ := dpAll_get' r (i := i) (v := d) (by simpa using e)
    exact ⟨v, by simpa using e1, e2⟩
theorem dp_int {v : V} {i : Int} (h : Dp K H v (.int i)) : v = .int i := by cases h; rfl
theorem dpAll_ints : ∀ {vs : List V} {ns : List Int}, DpAll K H vs (ns.map .int) → vs = ns.map V.int
  | _, [], .nil => rfl
  | _, n :: ns, .cons h r => by rw [dp_int h, dpAll_ints r]; rfl
theorem ints_dpAll : ∀ ns : List Int, DpAll K H (ns.map V.int) (ns.map .int)
  | [] => .nil
  | n :: ns => .cons (.int n) (ints_dpAll ns)
theorem dp_tup {v : V} {ds : List PyData} (h : Dp K H v (.tuple ds)) : ∃ a xs, v = .ref a ∧ SqT K H a xs ∧ DpAll K H xs ds := by
  cases h with
  | tup h r => exact ⟨_, _, rfl, h, r⟩
theorem dp_row {v : V} {r : List Int} (h : Dp K H v (rowD r)) : ∃ a, v = .ref a ∧ SqT K H a (r.map V.int) := by
  obtain ⟨a, xs, e, h1, h2⟩ := dp_tup h
  rw [dpAll_ints h2] at h1
  exact ⟨a, e, h1⟩
theorem row_dp {a : Addr} {r : List Int} (h : SqT K H a (r.map V.int)) : Dp K H (.ref a) (rowD r) := .tup h (ints_dpAll r)
theorem dp_pair {v : V} {p : Int × Int} (h : Dp K H v (pairD p)) : ∃ a, v = .ref a ∧ SqT K H a [.int p.1, .int p.2] := by
  obtain ⟨a, xs, e, h1, h2⟩ := dp_tup h
  cases h2 with
  | cons x r => cases r with
    | cons y r => cases r with
      | nil => rw [dp_int x, dp_int y] at h1; exact ⟨a, e, h1⟩
end
/-- Python's type of a tuple that is read -/
theorem sqT_ty {K : PySem.W.Frag} {H : Hp} {a : Addr} {xs : List V} (h : SqT K H a xs) : TyX K H (.ref a) (.type "tuple") := by
  rcases h with (h | ⟨o, h⟩) | ⟨o, its, n, h1, h2, _⟩
  · exact .base (.tup h)
  · exact .fTuple h
  · exact .kTuple h1 h2
end L2.EH
end S_G1
section S_S1
set_option maxRecDepth 100000
set_option maxHeartbeats 4000000
namespace L2.EH
open PySem PySem.Spec PyProof.Rows
def tp (i : Nat) : Stmt := PySem.Challenge.pw_halverules_k63_rests_judged.main.body.getD i (.Pass ⟨0, 0, 0, 0⟩)
abbrev sRuleInit : Stmt := inClass (tp 8) 0
abbrev sIsWhole : Stmt := tp 9
abbrev sIsRowOf : Stmt := tp 10
abbrev sIsFraction : Stmt := tp 11
abbrev sIsFractionRow : Stmt := tp 12
abbrev sIsBetween : Stmt := tp 13
abbrev sIsSquare : Stmt := tp 14
abbrev sPlainIn : Stmt := tp 15
abbrev sSharedRow : Stmt := tp 16
abbrev sRowTimes : Stmt := tp 17
abbrev sIsClosed : Stmt := tp 25
abbrev sMadeRow : Stmt := tp 26
abbrev sMatrixOf : Stmt := tp 27
abbrev sAreRows : Stmt := tp 28
abbrev sSumProd : Stmt := tp 29
abbrev sAreAscending : Stmt := tp 34
abbrev sIsRests : Stmt := tp 43
abbrev sAccepts : Stmt := tp 47
abbrev sCell : Stmt := tp 53
abbrev sSource : Stmt := tp 54
abbrev sDraw : Stmt := tp 55
abbrev sImage : Stmt := tp 56
abbrev sDigits : Stmt := tp 57
abbrev sLines : Stmt := tp 58
abbrev sAt : Stmt := tp 59
abbrev sNumber : Stmt := tp 60
abbrev sRow : Stmt := tp 61
abbrev sRule : Stmt := tp 62
abbrev sPlain : Stmt := tp 63
abbrev sRested : Stmt := tp 64
abbrev sBack : Stmt := tp 65
abbrev sPapers : Stmt := tp 66
abbrev sAscending : Stmt := tp 67
abbrev sDue : Stmt := tp 68
abbrev sBent : Stmt := tp 69
abbrev sRight : Stmt := tp 70
abbrev sManyRight : Stmt := tp 71
abbrev sLaw : Stmt := tp 72
end L2.EH
end S_S1
section S_Z8
set_option maxRecDepth 100000
set_option maxHeartbeats 4000000
namespace L2.EH
open PySem PySem.Spec PyProof.Rows
/-! ### promises that know of the guards (repr asks for them) -/
structure FnG (P : Program) (w : World) (K : PySem.W.Frag) (mg : Str → Option Value) (base : Heap) (CX : CXT) (k : Nat) (f : Addr) (fd : FuncData) (ps : List Str) (sp : Sp) : Prop where
  len : ∀ vs H Q E, sp vs H Q E → vs.length = ps.length
  run : ∀ (A : Around) (outer : List Env) (s : Shared) (H : Hp) (args : Args) (us : List Value) (vs : List V) (Q : VK) (E : XK), Room k A → A.guards = some [] → Env0 P w K mg base A outer s H → BindsTo s fd args (ps.zip us) → Vals vs us → sp vs H Q E →
    codeAny (model P w) A (.call (.ref f) args) (CR CX outer P w H s Q E) s

theorem fn_ofG {CX : CXT} {P : Program} {w : World} {K : PySem.W.Frag} {mg : Str → Option Value} {base : Heap} {k : Nat} {f : Addr} {nm qual : Str} {pa : Arguments} {bd : List Stmt} {sc : Scope} {dV kV doc pm cdv ct oc : Value} {an od : Option Addr}
    {osl : Array (Option Value)} {N ps : List Str} {sp : Sp} (lk : K.lookup f = some ⟨oc, od, .func (PySem.W.fnOf nm qual pa bd sc dV kV doc pm an cdv ct), osl⟩) (hcd : PySem.W.codeIn K cdv qual = true) (S : FnScope N ps sc)
    (len : ∀ vs H Q E, sp vs H Q E → vs.length = ps.length)
    (go : ∀ (A : Around) (outer : List Env) (s : Shared) (H : Hp) (vs : List V) (Q : VK) (E : XK), Room k (A.deeper (envOfC qual sc s.heap.objs.size f cdv)) → (A.deeper (envOfC qual sc s.heap.objs.size f cdv)).guards = some [] → sp vs H Q E →
      ∃ t, PSs (cxOf CX P w K mg base N qual sc f cdv A outer s H E) bd t ∧ t { nx := fun _ H' => Q .non H', rt := Q } (start N vs) H) :
    FnG P w K mg base CX (k + 1) f (PySem.W.fnOf nm qual pa bd sc dV kV doc pm an cdv ct) ps sp where
  len := len
  run := fun A outer s H args us vs Q E room gd e0 binds rel want => by
    have there : ∀ b o, base.get? b = some o → s.heap.get? b = some o := fun b o e => (e0.bs b o e).1
    have par : ((ps.zip us).all fun y => sc.names.lookup y.1 == some .local || sc.names.lookup y.1 == some .cell) = true := List.all_eq_true.mpr fun y hy => by
      rcases S.par y.1 (List.of_mem_zip (a := y.1) (b := y.2) hy).1 with q | q <;> simp [q]
    obtain ⟨t, ht, hq⟩ := go A outer s H vs Q E (room.deeper _) gd want
    refine Att.call_fn (e0.mod.kin.keeps there) (e0.mod.nolimit.keeps there) lk hcd room.depth binds par (fun s1 x => ?_) S.co S.gen S.kind
    refine wpAny_mono (ht.run [] s1 (start N vs) H _ (inv_start S room.hd e0 (len _ _ _ _ want) rel x) hq) (fun fl s' got => ?_) fun _ _ z => z
    match fl, got with
    | .ret _, ⟨v, _, H', J, rv, q⟩ => exact ⟨v, H', J.os, J.bare, J.base, J.hok, rv, q⟩
    | .next, ⟨_, H', J, q⟩ => exact ⟨.non, H', J.os, J.bare, J.base, J.hok, rfl, q⟩
    | .brk, ⟨_, _, _, q⟩ => exact q.elim
    | .cont, ⟨_, _, _, q⟩ => exact q.elim
section
variable {P : Program} {w : World} {K : PySem.W.Frag} {mg : Str → Option Value} {base : Heap}
theorem Fun.okG {x qual : Str} {st : Stmt} {f : Addr} {fd : FuncData} {N ps : List Str} {k : Nat} {sp : Sp} (F : Fun K x qual st f fd) (S : FnScope N ps (defScope st)) (len : ∀ vs H Q E, sp vs H Q E → vs.length = ps.length)
    (hbody : ∀ (cdv : Value) (A : Around) (outer : List Env) (s : Shared) (H : Hp) (vs : List V) (Q : VK) (E : XK), Room k (A.deeper (envOfC qual (defScope st) s.heap.objs.size f cdv)) → (A.deeper (envOfC qual (defScope st) s.heap.objs.size f cdv)).guards = some [] → sp vs H Q E →
      ∃ t, PSs (cxOf CX0 P w K mg base N qual (defScope st) f cdv A outer s H E).nox (defBody st) t ∧ t { nx := fun _ H' => Q .non H', rt := Q } (start N vs) H) : FnG P w K mg base CX0 (k + 1) f fd ps sp := by
  obtain ⟨oc, od, kV, doc, pm, an, cdv, ct, osl, rfl, lk, hcd⟩ := F.ex
  refine fn_ofG lk hcd S len fun A outer s H vs Q E hr hG hsp => ?_
  obtain ⟨t, h, q⟩ := hbody cdv A outer s H vs Q E hr hG hsp
  exact ⟨t, h.nox, q⟩
end
section
variable {X : Cx} {CX : CXT} {k : Nat} {f C : Addr} {fd : FuncData} {ps : List Str} {sp : Sp} {dvs : List V} {ds : List Value} {E : XK} {x m : Str} {p pos apos : Pos} {e o : Expr} {es : List Expr} {ta : TE} {t : TA}
theorem run_fnG {pins : List (Addr × Obj)} {σ : St} {H : Hp} {s : Shared} {Q : VK} {us : List Value} {vs : List V} (F : FnG X.prog X.w X.K X.mg X.base CX k f fd ps sp) (hr : Room k X.A) (hG : X.A.guards = some []) (hb : Binds X.K fd ps ds) (hd : Vals dvs ds) (hx : Passes CX X E)
    (I : Inv X pins σ H s) (r : Vals vs us) (h : sp (vs ++ dvs) H Q E) : wpAny (model X.prog X.w) X.A (call (.ref f) us) (EP X pins σ Q) X.xe s := by
  have r2 : Vals (vs ++ dvs) (us ++ ds) := r.append hd
  have hl : (us ++ ds).length = ps.length := by rw [← r2.length]; exact F.len _ _ _ _ h
  refine wpAny_call (codeAny_mono (F.run X.A X.stack s H ⟨us, []⟩ (us ++ ds) (vs ++ dvs) Q E hr hG I.env0 (hb s us I.kIn hl) r2 h) fun r s' hq => ?_)
  cases r with
  | error e => exact hx pins σ H s e s' I hq
  | ok fl =>
    cases fl with
    | ret u => exact I.after hq
    | next => exact False.elim hq
    | brk => exact False.elim hq
    | cont => exact False.elim hq
theorem pe_callG (F : FnG X.prog X.w X.K X.mg X.base CX k f fd ps sp) (hr : Room k X.A) (hG : X.A.guards = some []) (hg : Gl X x) (hm : X.mg x = some (.ref f)) (hk : PySem.W.keepIn X.K (.ref f) = true) (hb : Binds X.K fd ps ds) (hd : Vals dvs ds) (hx : Passes CX X E)
    (ha : PA X (e :: es) t) (hdb : (x == ("__debug__" : Str)) = false := by decide) (he : starEach (e :: es) X.env = (false, eval e X.env) :: starEach es X.env := by rfl) (hpl : (backTo pos (starEach es X.env)).any (·.1) = false := by rfl) :
    PE X (.Call (.Name x p) (e :: es) [] pos) (tCall sp dvs E t) := by
  refine ⟨fun pins s σ H Q I h => ?_⟩
  refine wpAny_Call_Name_kw (ld_glob I hg hm ?_ hdb)
  refine PySem.W.callWith_K (h₀ := X.base) I.ok.mod.kin hk (thn (ha.run pos pins s σ H _ I h) fun us s1 ⟨vs, H1, I1, r, q⟩ => ⟨I1.kIn, ?_⟩) he hpl
  exact run_fnG F hr hG hb hd hx I1 r q
end

/-! ### repr of data -/
def rRep (K : PySem.W.Frag) : List V → Hp → VK → Prop := fun xs H Q => ∃ x d, xs = [x] ∧ Dp K H x d ∧ d.showable = true ∧ d.hasDict = false ∧ d.depth ≤ 8 ∧ d.shown.length ≤ sizeLine ∧ Q (.str d.shown) H
theorem call_rep {X : Cx} (hG : X.A.guards = some []) (hu : X.A.units + 64 < cLine) : CallR X (.builtin "repr") (rRep X.K) := by
  intro pins s σ H xs us Q I r h
  obtain ⟨x, d, rfl, hd, hs, hn, hdp, hz, q⟩ := h
  obtain ⟨u, rfl, ru⟩ := vals1 r
  have fin : ∀ h' uu tk, (∀ b o, s.heap.get? b = some o → h'.get? b = some o) → EP X pins σ Q (.str d.shown uu) { s with heap := h', toks := tk } := fun h' uu tk hk => ⟨.str d.shown, H, I.kept hk, ⟨_, rfl⟩, q⟩
  have refs : ∀ a, u = .ref a → wpAny (model X.prog X.w) X.A (call (.builtin "repr") [u]) (EP X pins σ Q) X.xe s := fun a ea => by
    obtain ⟨as, rr⟩ := Dp.reads I d x u hd ru
    subst ea
    exact repr_of_reads' rr hs (fun z => by rw [hn] at z; cases z) hG (by omega) (fun _ _ e => e) (fun h' uu tk hk => fin h' uu tk hk) hz
  cases hd with
  | non => cases ru; exact PySem.P.repr_of_none (by simp only [PyData.shown] at fin; exact fin s.heap _ _ fun _ _ z => z)
  | bl b => cases ru; exact PySem.P.repr_of_bool (by simp only [PyData.shown] at fin; exact fin s.heap _ _ fun _ _ z => z)
  | int i => obtain ⟨t, rfl⟩ := ru; exact PySem.P.repr_of_int (by simpa [PyData.showable] using hs) (by simp only [PyData.shown] at fin; exact fin s.heap _ _ fun _ _ z => z)
  | str z => obtain ⟨t, rfl⟩ := ru; exact PySem.P.repr_of_str (by simp only [PyData.shown] at fin; exact fin s.heap _ _ fun _ _ z => z) (by simpa only [PyData.shown] using hz)
  | lst h1 h2 => exact refs _ ru
  | tup h1 h2 => exact refs _ ru


end L2.EH
end S_Z8
section S_M1
set_option maxRecDepth 100000
set_option maxHeartbeats 0
namespace L2.EH
open PySem PySem.Spec PyProof.Rows L2
/-! ### a hook of one's own: a def stands at an address that a path tells -/
structure DP where
  pl : PySem.W.Frag → Addr
  name : Str
  qual : Str
  st : Stmt
def fnP (K : PySem.W.Frag) (a : Addr) : He.FnW := match K.lookup a with
  | some ⟨_, _, .func fd, _⟩ => some (fd.name, fd.qualname, fd.params, fd.body, fd.scope, fd.globals, fd.closure, fd.builtins)
  | _ => none
def DP.val (d : DP) : He.FnW := some (d.name, d.qual, defArgs d.st, .stmts (defBody d.st), defScope d.st, mainGlobals, [], builtinsNs)
def noneV : Value → Bool
  | .none => true
  | _ => false
theorem noneV_ok {v : Value} (h : noneV v = true) : v = .none := by
  cases v <;> first | rfl | cases h
def DP.ok (K : PySem.W.Frag) (d : DP) : Bool := PySem.W.keepIn K (.ref (d.pl K)) && (match K.lookup (d.pl K) with
  | some ⟨_, _, .func fd, _⟩ => PySem.W.codeIn K fd.code d.qual && noneV fd.defaults
  | _ => false)
theorem DP.fun_ {K : PySem.W.Frag} {d : DP} (w1 : fnP K (d.pl K) = d.val) (w2 : d.ok K = true) : ∃ fd, Fun K d.name d.qual d.st (d.pl K) fd := by
  have w3 := Bool.and_eq_true_iff.mp w2
  have kept := w3.1
  have w4 := w3.2
  unfold fnP at w1
  rcases look : K.lookup (d.pl K) with _ | ⟨oc, od, dt, osl⟩
  · rw [look] at w4; cases w4
  · rw [look] at w4 w1
    cases dt with
    | func fd =>
      rcases fd with ⟨a1, a2, a3, a4, a5, a6, a7, a8, a9, a10, a11, a12, a13, a14, a15⟩
      have w5 : (some (a1, a2, a3, a4, a5, a6, a7, a15) : He.FnW) = some (d.name, d.qual, defArgs d.st, .stmts (defBody d.st), defScope d.st, mainGlobals, [], builtinsNs) := w1
      have w6 := Option.some.inj w5
      simp only [Prod.mk.injEq] at w6
      obtain ⟨z1, z2, z3, z4, z5, z6, z7, z8⟩ := w6
      subst z1 z2 z3 z4 z5 z6 z7 z8
      have w7 : (PySem.W.codeIn K a13 d.qual && noneV a8) = true := w4
      obtain ⟨w8, w9⟩ := Bool.and_eq_true_iff.mp w7
      obtain rfl := noneV_ok w9
      exact ⟨_, ⟨oc, od, a9, a10, a11, a12, a13, a14, osl, rfl, look, w8⟩, kept⟩
    | _ => cases w4
abbrev AlP : Type := Bool × List He.FnW
def obsP (ex : PySem.W.Frag → Bool) (fn : List DP) (K : PySem.W.Frag) : AlP := (ex K && fn.all fun d => d.ok K, fn.map fun d => fnP K (d.pl K))
def valP (fn : List DP) : AlP := (true, fn.map DP.val)
def SaysP (ex : PySem.W.Frag → Bool) (fn : List DP) (K : PySem.W.Frag) : Prop := obsP ex fn K = valP fn
def obsPG (n : Nat) (ex : PySem.W.Frag → Bool) (fn : List DP) (g : Addr → Option Obj) : AlP := obsP ex fn (He.frG g (He.asD g n))
def hookP (n : Nat) (ex : PySem.W.Frag → Bool) (fn : List DP) : PySem.W.Hook where
  α := AlP
  obs := fun s => obsPG n ex fn s.heap.get?
  val := fun _ => valP fn
  says := fun _ h => ∃ K : PySem.W.Frag, K.In h ∧ SaysP ex fn K
  of := fun _ _ e => ⟨_, He.frG_in, e⟩
  keeps := fun _ _ _ ⟨K, hK, c⟩ k => ⟨K, PySem.W.Frag.In.keeps hK k, c⟩
theorem obsPG_eq {n : Nat} {ex : PySem.W.Frag → Bool} {fn : List DP} {g : Addr → Option Obj} {s : Shared} (h : ∀ a, g a = s.heap.get? a) : obsPG n ex fn g = (hookP n ex fn).obs s := by
  obtain rfl : g = s.heap.get? := funext h
  rfl
theorem SaysP.ex {ex : PySem.W.Frag → Bool} {fn : List DP} {K : PySem.W.Frag} (c : SaysP ex fn K) : ex K = true := (Bool.and_eq_true_iff.mp (show (ex K && fn.all fun d => d.ok K) = true from congrArg (fun z : AlP => z.1) c)).1
theorem SaysP.def_ {ex : PySem.W.Frag → Bool} {fn : List DP} {K : PySem.W.Frag} (c : SaysP ex fn K) (i : Nat) {d : DP} (h : fn[i]? = some d := by rfl) : ∃ fd, Fun K d.name d.qual d.st (d.pl K) fd := by
  have c2 := (Bool.and_eq_true_iff.mp (show (ex K && fn.all fun d => d.ok K) = true from congrArg (fun z : AlP => z.1) c)).2
  have c3 : fn.map (fun d => fnP K (d.pl K)) = fn.map DP.val := congrArg (fun z : AlP => z.2) c
  have c4 : (fn.map fun d => fnP K (d.pl K))[i]? = (fn.map DP.val)[i]? := by rw [c3]
  rw [List.getElem?_map, List.getElem?_map, h] at c4
  exact DP.fun_ (Option.some.inj c4) (List.all_eq_true.mp c2 d (List.mem_of_getElem? h))
/-! ### the defs of this row -/
def gl (x : Str) : PySem.W.Frag → Addr := fun K => He.ga K x
def mth (C m : Str) : PySem.W.Frag → Addr := fun K => He.ma K (He.ga K C) m
def plain (x : Str) (st : Stmt) : DP := ⟨gl x, x, x, st⟩
def fnA : List DP := [plain "is_whole" sIsWhole, plain "is_row_of" sIsRowOf, plain "is_fraction" sIsFraction, plain "is_fraction_row" sIsFractionRow, plain "is_between" sIsBetween, plain "is_square" sIsSquare, plain "plain_in" sPlainIn, plain "shared_row" sSharedRow, plain "row_times" sRowTimes, plain "is_closed" sIsClosed, plain "made_row" sMadeRow, plain "matrix_of" sMatrixOf, plain "are_rows" sAreRows, plain "sum_of_products" sSumProd, plain "are_ascending" sAreAscending, plain "is_rests" sIsRests, plain "accepts" sAccepts]
def fnB : List DP := [plain "_law_cell" sCell, plain "_law_source" sSource, plain "_law_draw" sDraw, plain "_law_image" sImage, plain "_law_digits" sDigits, plain "_law_lines" sLines, plain "_law_at" sAt, plain "_law_number" sNumber, plain "_law_row" sRow, plain "_law_rule" sRule, plain "_law_plain" sPlain, plain "_law_rested" sRested, plain "_law_back" sBack, plain "_law_papers" sPapers, plain "_law_ascending" sAscending, plain "_law_due" sDue, plain "_law_bent" sBent, plain "_law_right" sRight, plain "_law_many_right" sManyRight, plain "law" sLaw]
def fnE : List DP := [⟨mth "PlainRule" "__init__", "__init__", "PlainRule.__init__", sRuleInit⟩]
def fnAll : List DP := fnA ++ (fnB ++ fnE)
end L2.EH
end S_M1
section S_M2
set_option maxRecDepth 100000
set_option maxHeartbeats 0
namespace L2.EH
open PySem PySem.Spec PyProof.Rows L2
def frees : List Str := ("isinstance" : Str) :: ("int" : Str) :: ("bool" : Str) :: ("tuple" : Str) :: ("str" : Str) :: ("list" : Str) :: ("len" : Str) :: ("all" : Str) :: ("sum" : Str) :: ("range" : Str) :: ("enumerate" : Str) :: ("zip" : Str) :: ("sorted" : Str) :: ("abs" : Str) :: ("divmod" : Str) :: ("repr" : Str) :: ("max" : Str) :: ("min" : Str) :: []
def intB (K : PySem.W.Frag) (x : Str) (i : Int) : Bool := match PySem.W.nsIn K mainGlobals x with
  | some (some (.int j _)) => decide (j = i)
  | _ => false
/-- a written dict of texts: where the name leads -/
def dictAt (K : PySem.W.Frag) (x : Str) : Bool := match K.lookup (He.ga K x) with
  | some ⟨.type "dict", none, .dict es n, #[]⟩ => true
  | _ => false
def factsB (K : PySem.W.Frag) : List Bool :=
  [He.eqO (PySem.W.nsIn K mainGlobals "gcd") (some (some (.builtin "math.gcd"))), He.eqO (PySem.W.nsIn K mainGlobals "lcm") (some (some (.builtin "math.lcm"))), intB K "PLAIN_LINES" 100, intB K "STATES" 1024, intB K "MODULUS" 12] ++
  ([(He.Fa.glo "PlainRule").ok K, (He.Fa.cls "PlainRule").ok K, (He.Fa.noat "PlainRule" "halves").ok K, (He.Fa.noat "PlainRule" "starts").ok K, (He.Fa.noat "PlainRule" "answer").ok K, (He.Fa.mkr "PlainRule").ok K] ++
  [(He.Fa.glo "CHECKS").ok K, (He.Fa.glo "THINGS").ok K, dictAt K "CHECKS", dictAt K "THINGS", !(He.ga K "CHECKS" == sysModules), He.eqO (PySem.W.nsIn K (He.ga K "CHECKS") "rests") (some (some (.ref (He.ga K "is_rests")))), (match PySem.W.nsIn K (He.ga K "THINGS") "rests" with | some (some (.int j _)) => decide (j = 3) | _ => false)])
def globs (fn : List DP) : List Str := fn.map (·.name)
def exB (K : PySem.W.Frag) : Bool := (frees.all fun x => (He.Fa.free x).ok K) && (((globs (fnA ++ fnB)).all fun x => (He.Fa.glo x).ok K) && (factsB K).all id)
abbrev RW : PySem.W.OpenRow := PySem.W.OpenLaw.row PySem.Challenge.rw_halverules_k63_rests_judged
end L2.EH
end S_M2
section S_M3
set_option maxRecDepth 100000
set_option maxHeartbeats 0
namespace L2.EH
open PySem PySem.W PySem.Calls PyProof.Rows L2
/-! ### where the top leaves its objects -/
def at0 : List Addr := [3, 6, 4, 59, 70, 77, 84, 89, 96, 101, 106, 111, 116, 121, 128, 135, 142, 149, 154, 159, 164, 169, 174, 179, 180, 185, 192, 199, 204, 209, 214, 221, 228, 233, 238, 243, 248, 249, 250, 257]
def at1 : List Addr := [262, 267, 272, 277, 284, 291, 298, 303, 310, 317, 324, 331, 336, 341, 346, 351, 356, 361, 366, 371, 376, 381, 386, 391, 0, 58, 69, 76, 83, 88, 95, 100, 105, 110, 115, 120, 127, 134, 141, 148]
def at2 : List Addr := [153, 158, 163, 168, 173, 178, 184, 191, 198, 203, 208, 213, 220, 227, 232, 237, 242, 247, 256, 261, 266, 271, 276, 283, 290, 297, 302, 309, 316, 323, 330, 335, 340, 345, 350, 355, 360, 365, 370, 375]
def at3 : List Addr := [380, 385, 390, 56, 57, 60, 61, 64, 65, 66, 67, 68, 71, 72, 73, 74, 75, 78, 79, 80, 81, 82, 85, 86, 87, 90, 91, 92, 93, 94, 97, 98, 99, 102, 103, 104, 107, 108, 109, 112]
def at4 : List Addr := [113, 114, 117, 118, 119, 122, 123, 124, 125, 126, 129, 130, 131, 132, 133, 136, 137, 138, 139, 140, 143, 144, 145, 146, 147, 150, 151, 152, 155, 156, 157, 160, 161, 162, 165, 166, 167, 170, 171, 172]
def at5 : List Addr := [175, 176, 177, 181, 182, 183, 186, 187, 188, 189, 190, 193, 194, 195, 196, 197, 200, 201, 202, 205, 206, 207, 210, 211, 212, 215, 216, 217, 218, 219, 222, 223, 224, 225, 226, 229, 230, 231, 234, 235]
def at6 : List Addr := [236, 239, 240, 241, 244, 245, 246, 251, 252, 253, 254, 255, 258, 259, 260, 263, 264, 265, 268, 269, 270, 273, 274, 275, 278, 279, 280, 281, 282, 285, 286, 287, 288, 289, 292, 293, 294, 295, 296, 299]
def at7 : List Addr := [300, 301, 304, 305, 306, 307, 308, 311, 312, 313, 314, 315, 318, 319, 320, 321, 322, 325, 326, 327, 328, 329, 332, 333, 334, 337, 338, 339, 342, 343, 344, 347, 348, 349, 352, 353, 354, 357, 358, 359]
def at8 : List Addr := [362, 363, 364, 367, 368, 369, 372, 373, 374, 377, 378, 379, 382, 383, 384, 387, 388, 389, 55, 50, 51, 52, 53, 54]
def ats : List Addr := at0 ++ (at1 ++ (at2 ++ (at3 ++ (at4 ++ (at5 ++ (at6 ++ (at7 ++ (at8))))))))
def tabs : List He.Tab := [(gl "CHECKS", [("same" : Str), ("apart" : Str), ("parting" : Str), ("relation" : Str), ("rests" : Str), ("told" : Str)]), (gl "THINGS", [("same" : Str), ("apart" : Str), ("parting" : Str), ("relation" : Str), ("rests" : Str), ("told" : Str)])]
abbrev AlL : Type := AlP × List (Option (List (Option (Str × Int))))
def obsLK (ex : PySem.W.Frag → Bool) (fn : List DP) (ts : List He.Tab) (K : PySem.W.Frag) : AlL := (obsP ex fn K, ts.map fun t => He.dicW K (t.1 K))
def valL (fn : List DP) (ts : List He.Tab) (w : World) : AlL := (valP fn, ts.map fun t => some (He.keysIn w.params t.2))
def SaysL (ex : PySem.W.Frag → Bool) (fn : List DP) (ts : List He.Tab) (w : World) (K : PySem.W.Frag) : Prop := obsLK ex fn ts K = valL fn ts w
def obsL (ex : PySem.W.Frag → Bool) (fn : List DP) (ts : List He.Tab) (g : Addr → Option Obj) : AlL := obsLK ex fn ts (He.frG g ats)
def hookL (ex : PySem.W.Frag → Bool) (fn : List DP) (ts : List He.Tab) : PySem.W.Hook where
  α := AlL
  obs := fun s => obsL ex fn ts s.heap.get?
  val := fun w => valL fn ts w
  says := fun w h => ∃ K : PySem.W.Frag, K.In h ∧ SaysL ex fn ts w K
  of := fun _ _ e => ⟨_, He.frG_in, e⟩
  keeps := fun _ _ _ ⟨K, hK, c⟩ k => ⟨K, PySem.W.Frag.In.keeps hK k, c⟩
theorem obsL_eq {ex : PySem.W.Frag → Bool} {fn : List DP} {ts : List He.Tab} {g : Addr → Option Obj} {s : Shared} (h : ∀ a, g a = s.heap.get? a) : obsL ex fn ts g = (hookL ex fn ts).obs s := by
  obtain rfl : g = s.heap.get? := funext h
  rfl
theorem SaysL.p {ex : PySem.W.Frag → Bool} {fn : List DP} {ts : List He.Tab} {w : World} {K : PySem.W.Frag} (c : SaysL ex fn ts w K) : SaysP ex fn K := congrArg (fun z : AlL => z.1) c
theorem SaysL.tab {ex : PySem.W.Frag → Bool} {fn : List DP} {ts : List He.Tab} {w : World} {K : PySem.W.Frag} (c : SaysL ex fn ts w K) (i : Nat) {t : He.Tab} (h : ts[i]? = some t := by rfl) : ∃ es n, KDict K w (t.1 K) es n := by
  have e : ts.map (fun t => He.dicW K (t.1 K)) = ts.map fun t => some (He.keysIn w.params t.2) := congrArg (fun z : AlL => z.2) c
  have e2 : (ts.map fun t => He.dicW K (t.1 K))[i]? = (ts.map fun t => some (He.keysIn w.params t.2))[i]? := by rw [e]
  rw [List.getElem?_map, List.getElem?_map, h] at e2
  exact He.dicW_ok (Option.some.inj e2)
abbrev hkL : PySem.W.Hook := hookL exB fnAll tabs
def obL (s : PySem.W.SharedT) : AlL := obsL exB fnAll tabs (HandSHeadRun.getT s)
theorem obL_eq (s : PySem.W.SharedT) : obL s = hkL.obs s.abs := obsL_eq (HandSHeadRun.getT_eq s)
def n0 : List PySem.Str := ("__name__" : PySem.Str) :: ("STATES" : PySem.Str) :: ("LARGEST" : PySem.Str) :: ("MODULUS" : PySem.Str) :: ("PLAIN_LINES" : PySem.Str) :: ("SPAN" : PySem.Str) :: ("RELATED" : PySem.Str) :: ("PlainRule" : PySem.Str) :: ("is_whole" : PySem.Str) :: ("is_row_of" : PySem.Str) :: ("is_fraction" : PySem.Str) :: ("is_fraction_row" : PySem.Str) :: ("is_between" : PySem.Str) :: ("is_square" : PySem.Str) :: ("plain_in" : PySem.Str) :: ("shared_row" : PySem.Str) :: ("row_times" : PySem.Str) :: ("half_values" : PySem.Str) :: ("lowest_terms" : PySem.Str) :: ("values_at_all" : PySem.Str) :: ("first_values" : PySem.Str) :: ("told_value" : PySem.Str) :: ("adds_up_to_0" : PySem.Str) :: []
def n1 : List PySem.Str := ("is_closed" : PySem.Str) :: ("made_row" : PySem.Str) :: ("matrix_of" : PySem.Str) :: ("are_rows" : PySem.Str) :: ("sum_of_products" : PySem.Str) :: ("ZERO" : PySem.Str) :: ("values_in_span" : PySem.Str) :: ("is_written_as_span" : PySem.Str) :: ("are_ascending" : PySem.Str) :: ("is_row_for" : PySem.Str) :: ("asked_numbers" : PySem.Str) :: ("is_right" : PySem.Str) :: ("is_same" : PySem.Str) :: ("is_apart" : PySem.Str) :: ("is_parting" : PySem.Str) :: ("is_relation" : PySem.Str) :: ("is_rests" : PySem.Str) :: ("is_told" : PySem.Str) :: ("CHECKS" : PySem.Str) :: ("THINGS" : PySem.Str) :: ("accepts" : PySem.Str) :: ("rules_in" : PySem.Str) :: ("are_apart" : PySem.Str) :: []
def n2 : List PySem.Str := ("add_up_at" : PySem.Str) :: ("add_up_in_span" : PySem.Str) :: ("_law_cell" : PySem.Str) :: ("_law_source" : PySem.Str) :: ("_law_draw" : PySem.Str) :: ("_law_image" : PySem.Str) :: ("_law_digits" : PySem.Str) :: ("_law_lines" : PySem.Str) :: ("_law_at" : PySem.Str) :: ("_law_number" : PySem.Str) :: ("_law_row" : PySem.Str) :: ("_law_rule" : PySem.Str) :: ("_law_plain" : PySem.Str) :: ("_law_rested" : PySem.Str) :: ("_law_back" : PySem.Str) :: ("_law_papers" : PySem.Str) :: ("_law_ascending" : PySem.Str) :: ("_law_due" : PySem.Str) :: ("_law_bent" : PySem.Str) :: ("_law_right" : PySem.Str) :: ("_law_many_right" : PySem.Str) :: []
def names : List PySem.Str := n0 ++ n1 ++ n2
/-- the run, boot and imports and all -/
noncomputable def whole (w : World) := HandSHeadRun.wholeF (fun p => HandSHeadRun.stepQ (HandSHeadRun.denQ HandSHeadRun.tabQ) p w) HandSHeadRun.fenceQ 7000 RW.prog
noncomputable def frK (s : SharedT) : PySem.W.Frag := He.frG (HandSHeadRun.getT s) ats
abbrev vw : Program := PySem.W.view RW.prog [0, 72]
end L2.EH
end S_M3
section S_M3r
set_option maxRecDepth 100000
set_option maxHeartbeats 0
namespace L2.EH
open PySem PySem.W PySem.Calls PyProof.Rows
/-- the world with the one habit that the written dicts ask for set to b -/
def wB (b : Bool) (w : World) : World := { w with params := { w.params with followText := fun s => if s == "special-get-raises" then b else w.params.followText s } }
theorem wB_eq (w : World) : wB (w.params.followText "special-get-raises") w = w := by
  have e : (fun s => if (s == "special-get-raises") = true then w.params.followText "special-get-raises" else w.params.followText s) = w.params.followText := by
    funext s
    by_cases h : s = "special-get-raises"
    · subst h; simp
    · simp [h]
  unfold wB
  rw [e]
theorem run_a0 (w : World) : (whole (wB false w)).map (fun x => (HandSHeadRun.looksF RW.prog x.1.heap x.2.abs, HandSHeadRun.seenQ vw names (importedModules RW.prog.main.body) (fun s => xlAt vw [] s && recOk RW.toRowW.records s) x.2.abs)) = some (true, openGood vw names) := by
  kernel_rfl
theorem run_a1 (w : World) : (whole (wB true w)).map (fun x => (HandSHeadRun.looksF RW.prog x.1.heap x.2.abs, HandSHeadRun.seenQ vw names (importedModules RW.prog.main.body) (fun s => xlAt vw [] s && recOk RW.toRowW.records s) x.2.abs)) = some (true, openGood vw names) := by
  kernel_rfl
theorem run_b0 (w : World) : (whole (wB false w)).map (fun x => obL x.2) = some (valL fnAll tabs (wB false w)) := by
  kernel_rfl
theorem run_b1 (w : World) : (whole (wB true w)).map (fun x => obL x.2) = some (valL fnAll tabs (wB true w)) := by
  kernel_rfl
theorem run_a (w : World) : (whole w).map (fun x => (HandSHeadRun.looksF RW.prog x.1.heap x.2.abs, HandSHeadRun.seenQ vw names (importedModules RW.prog.main.body) (fun s => xlAt vw [] s && recOk RW.toRowW.records s) x.2.abs)) = some (true, openGood vw names) := by
  have h := wB_eq w
  cases hb : w.params.followText "special-get-raises" with
  | false => rw [hb] at h; rw [← h]; exact run_a0 w
  | true => rw [hb] at h; rw [← h]; exact run_a1 w
theorem run_b (w : World) : (whole w).map (fun x => obL x.2) = some (valL fnAll tabs w) := by
  have h := wB_eq w
  cases hb : w.params.followText "special-get-raises" with
  | false => rw [hb] at h; rw [← h]; exact run_b0 w
  | true => rw [hb] at h; rw [← h]; exact run_b1 w
theorem map_two {α β γ : Type} {o : Option α} {f : α → β} {g : α → γ} {b : β} {c : γ} (h1 : o.map f = some b) (h2 : o.map g = some c) : ∃ x, o = some x ∧ f x = b ∧ g x = c := by
  obtain ⟨x, e, h⟩ := Option.map_eq_some_iff.mp h1
  obtain ⟨y, e', h'⟩ := Option.map_eq_some_iff.mp h2
  rw [e] at e'
  cases e'
  exact ⟨x, e, h, h'⟩
theorem run (w : World) : HandSHeadRun.RunEqI RW vw hkL obL 7000 names w := by
  unfold HandSHeadRun.RunEqI
  obtain ⟨x, e, h1, h2⟩ := map_two (run_a w) (run_b w)
  have e' : HandSHeadRun.wholeF (fun p => HandSHeadRun.stepQ (HandSHeadRun.denQ HandSHeadRun.tabQ) p w) HandSHeadRun.fenceQ 7000 RW.prog = some x := e
  rw [e']
  have h3 := Prod.mk.inj h1
  show some _ = some _
  exact congrArg some (Prod.ext h3.1 (Prod.ext h3.2 h2))
end L2.EH
end S_M3r
section S_Z10
set_option maxRecDepth 100000
set_option maxHeartbeats 4000000
namespace L2.EH
open PySem PySem.Spec PyProof.Rows L2
/-! ### the law's end, with the guards and the module's values that the top reckons -/
/-- the abstract heap at the law's entry: the script alone, if it is none of the module's own -/
def entryH (K : PySem.W.Frag) (a : Addr) (o : Obj) (xs : List V) : Hp := fun b => if b = a ∧ K.lookup a = none then some (.frz o (.lst xs)) else none
section
variable {P : Program} {w : World} {K : PySem.W.Frag} {mg mb : Str → Option Value} {a : Addr} {s₁ : Shared} {vs : List Value} {ns : List Int}
theorem entry_env (KX : K.In s₁.heap) (hns : s₁.heap.Ns mainGlobals mg) (hb : s₁.heap.Ns builtinsNs mb) (hbb : ∀ x : Str, x ≠ "__name__" → mb x = bootBuiltins x) (hlim : s₁.heap.NoLimit) (hg : s₁.gens = #[])
    (ha : s₁.heap.get? a = some { cls := .type "list", data := .seq vs.toArray }) (hi : IntsAre vs ns) (hl : ns.length ≤ sizeLine) :
    Env0 P w K mg (hidT s₁.heap (entryH K a { cls := .type "list", data := .seq vs.toArray } (ns.map V.int))) callerA [] s₁ (entryH K a { cls := .type "list", data := .seq vs.toArray } (ns.map V.int)) := by
  generalize hH : entryH K a { cls := .type "list", data := .seq vs.toArray } (ns.map V.int) = H
  have off : ∀ b, b ≠ a → H b = none := fun b hn => by rw [← hH]; exact if_neg fun z => hn z.1
  have offK : ∀ b o, K.lookup b = some o → H b = none := fun b o e => by
    rw [← hH]
    exact if_neg fun z => by rw [z.1, z.2] at e; cases e
  have see : ∀ {b : Addr} {o : Obj}, s₁.heap.get? b = some o → H b = none → (hidT s₁.heap H).get? b = some o := fun e n => hidT_get e n
  have ns' : ∀ {b : Addr} {m : Str → Option Value}, s₁.heap.Ns b m → (hidT s₁.heap H).Ns b m := fun {b m} ⟨o, es, ep, e, d, r⟩ => ⟨o, es, ep, see e (off b fun z => by
    rw [z, ha] at e
    cases e
    cases d), d, r⟩
  refine ⟨rfl, ⟨fun b o e => see (KX b o e) (offK b o e), ns' hns, ⟨mb, ns' hb, hbb⟩, ?_⟩, fun b o e => of_hidT e, Nat.le_of_eq (hidT_size _ _), trivial, fun b hb => absurd hb (List.not_mem_nil (a := b)), fun b u e => ?_, .of_eq hg⟩
  · obtain ⟨mc, h1, h2⟩ := hlim
    exact ⟨mc, ns' h1, h2⟩
  · by_cases hn : b = a
    · rw [hn] at e ⊢
      rw [← hH] at e
      unfold entryH at e
      split at e
      · cases e
        exact ⟨ha, by rw [List.length_map]; exact hl, vs, _, vals_ints hi, ha⟩
      · cases e
    · rw [off b hn] at e
      cases e
theorem entry_seq (KX : K.In s₁.heap) (ha : s₁.heap.get? a = some { cls := .type "list", data := .seq vs.toArray }) (hi : IntsAre vs ns) (hl : ns.length ≤ sizeLine) :
    SqL K (entryH K a { cls := .type "list", data := .seq vs.toArray } (ns.map V.int)) a (ns.map V.int) := by
  cases hk : K.lookup a with
  | none => exact .inl (.inr ⟨_, if_pos ⟨rfl, hk⟩⟩)
  | some o =>
    have e := KX a o hk
    rw [ha] at e
    cases e
    exact .inr ⟨_, vs.toArray, _, hk, rfl, rfl, rfl, by rw [List.size_toArray, hi.length]; exact hl, by simpa using vals_ints hi⟩
theorem entry_only (o : Obj) (xs : List V) : Only (entryH K a o xs) := fun b => by
  unfold entryH
  split
  · exact .inr ⟨_, _, rfl⟩
  · exact .inl rfl
theorem law_callG {CX : CXT} {k : Nat} {fa : Addr} {fd : FuncData} {x : Str} {sp : Sp}
    (KX : K.In s₁.heap) (hns : s₁.heap.Ns mainGlobals mg) (hb : s₁.heap.Ns builtinsNs mb) (hbb : ∀ x : Str, x ≠ "__name__" → mb x = bootBuiltins x) (hlim : s₁.heap.NoLimit) (hg : s₁.gens = #[])
    (ha : s₁.heap.get? a = some { cls := .type "list", data := .seq vs.toArray }) (hi : IntsAre vs ns) (hl : ns.length ≤ sizeLine) (hr : Room k callerA)
    (F : ∀ base : Heap, K.In base → base.Ns mainGlobals mg → FnG P w K mg base CX k fa fd [x] sp) (hbind : ∀ (s : Shared) (u : Value), BindsTo s fd ⟨[u], []⟩ [(x, u)])
    (hsp : ∀ H : Hp, Only H → SqL K H a (ns.map V.int) → sp [.ref a] H (fun v _ => v = .bl true) fun _ _ _ => False)
    (hCX : ∀ H e s', CX [] H s₁ (fun _ _ _ => False) e s' → False) :
    codeAny (model P w) callerA (.call (.ref fa) ⟨[.ref a], []⟩) (fun r s' => r = .ok (.ret (.bool true)) ∧ OldK s₁.heap s'.heap ∧ s'.os = s₁.os ∧ AllBare s'.gens) s₁ := by
  have e0 := entry_env (P := P) (w := w) KX hns hb hbb hlim hg ha hi hl
  have only := entry_only (K := K) (a := a) { cls := .type "list", data := .seq vs.toArray } (ns.map V.int)
  refine codeAny_mono ((F _ e0.mod.kin e0.mod.glob).run callerA [] s₁ _ ⟨[.ref a], []⟩ [.ref a] [.ref a] _ _ hr rfl e0 (hbind s₁ (.ref a)) (.cons rfl .nil) (hsp _ only (entry_seq KX ha hi hl))) fun r s' got => ?_
  match r, got with
  | .error e, got => exact (hCX _ e s' got).elim
  | .ok .next, got => exact got.elim
  | .ok .brk, got => exact got.elim
  | .ok .cont, got => exact got.elim
  | .ok (.ret u), ⟨v, H', os, bare, un, hok', r', q⟩ =>
    have q' : v = .bl true := q
    subst q'
    obtain rfl : u = Value.bool true := r'
    refine ⟨rfl, OldK.of_keep fun b o e => ?_, os, bare⟩
    rcases only b with n | ⟨ob, xs, z⟩
    · exact un.keep b o e n (List.not_mem_nil (a := b)) (List.not_mem_nil (a := b))
    · have z1 := (e0.hok b _ z).1
      have z2 := (hok' b _ (un.frzs b ob _ z)).1
      rw [e] at z1
      cases z1
      exact z2
end
theorem walk_ofEG {l : PySem.W.OpenLaw} {n k : Nat} {q : Program} {loose : List Str} {XP : (Str → Option Value) → Heap → Prop} {YP : World → Heap → Prop} {d : DefRec} {CX : CXT} {x : Str}
    (hn : l.most = some n) (hn2 : n ≤ sizeLine) (hdf : d.params.defaults = []) (hr : Room k callerA)
    (F : ∀ (w : World) (mg : Str → Option Value) (fa : Addr) (h : Heap), YP w h → h.Ns mainGlobals mg → mg d.name = some (.ref fa) →
      ∃ (K : PySem.W.Frag) (fd : FuncData) (sp : Sp), K.In h ∧ (∀ (s : Shared) (u : Value), BindsTo s fd ⟨[u], []⟩ [(x, u)]) ∧
        (∀ (H : Hp) (a : Addr) (ns : List Int), ns.length ≤ n → Only H → SqL K H a (ns.map V.int) → sp [.ref a] H (fun v _ => v = .bl true) fun _ _ _ => False) ∧
        ∀ base : Heap, K.In base → base.Ns mainGlobals mg → FnG l.prog w K mg base CX k fa fd [x] sp)
    (hCX : ∀ (H : Hp) (s : Shared) (e : Value) (s' : Shared), CX [] H s (fun _ _ _ => False) e s' → False) :
    PySem.W.WalkO q loose XP YP l.row.toRowW d [] (fun f vs => PySem.call f vs) := by
  refine Att.attach_call hn hdf fun w s₀ s₁ mg mb fa o pm cd doc a vs ns G Y ho hd hcd hmg hobj hints hlen hg => ?_
  obtain ⟨K, fd, sp, KX, hb, hsp, hF⟩ := F w mg fa _ Y G.T.g hmg
  exact law_callG KX G.T.g G.T.b G.T.builtins G.T.nolimit hg hobj hints (Nat.le_trans hlen hn2) hr hF hb (fun H hO hS => hsp H a ns hlen hO hS) fun H e s' => hCX H s₁ e s'
end L2.EH
end S_Z10
section S_M3h
set_option maxRecDepth 100000
set_option maxHeartbeats 0
namespace L2.EH
open PySem PySem.W PySem.Calls PyProof.Rows
/-- the law holds if the facts that the head leaves give its def's promise -/
theorem head_gives
    (F : ∀ (w : World) (mg : PySem.Str → Option Value) (fa : Addr) (h : Heap) (K : PySem.W.Frag), K.In h → h.Ns mainGlobals mg → mg ("law" : PySem.Str) = some (.ref fa) → SaysL exB fnAll tabs w K →
      ∃ (fd : FuncData) (sp : L2.Sp), (∀ (s : Shared) (u : Value), BindsTo s fd ⟨[u], []⟩ [("_law_cells", u)]) ∧
        (∀ (H : L2.Hp) (a : Addr) (ns : List Int), ns.length ≤ 63 → L2.Only H → L2.SqL K H a (ns.map L2.V.int) → sp [.ref a] H (fun v _ => v = .bl true) fun _ _ _ => False) ∧
        ∀ base : Heap, K.In base → base.Ns mainGlobals mg → L2.EH.FnG RW.prog w K mg base L2.CX0 10 fa fd ["_law_cells"] sp) :
    PySem.Challenge.rw_halverules_k63_rests_judged.Holds := by
  w_on; o_law
  refine HandSHeadRun.head_imp (r := OpenLaw.row PySem.Challenge.rw_halverules_k63_rests_judged) (q := vw) (H := hkL) (ob := obL) (M := 7000) (loose := names) (d := HandSHeadRun.topDef (OpenLaw.row PySem.Challenge.rw_halverules_k63_rests_judged).prog 72) (kwd := []) obL_eq
    run (by kernel_rfl) (by kernel_rfl) (by kernel_rfl) (by rfl) (by first | assumption | decide +kernel) (by decide +kernel) ⟨rfl, rfl, rfl, rfl, rfl, by decide +kernel⟩ ?hw ?hc
  case hw => w_witness2
  case hc =>
    refine L2.EH.walk_ofEG (l := PySem.Challenge.rw_halverules_k63_rests_judged) (n := 63) (k := 10) (x := "_law_cells") (CX := L2.CX0) rfl (by decide) (by kernel_rfl) ⟨rfl, by decide, by decide⟩ ?F (fun _ _ _ _ z => z)
    intro w mg fa h Y G hmg0
    obtain ⟨K, KX, c⟩ := Y
    have hmg : mg ("law" : PySem.Str) = some (.ref fa) := by
      have e : (HandSHeadRun.topDef (OpenLaw.row PySem.Challenge.rw_halverules_k63_rests_judged).prog 72).name = ("law" : PySem.Str) := by kernel_rfl
      rw [← e]
      exact hmg0
    obtain ⟨fd, sp, hb, hs, hF⟩ := F w mg fa h K KX G hmg c
    exact ⟨K, fd, sp, KX, hb, hs, hF⟩
end L2.EH
end S_M3h
section S_Q1
set_option maxRecDepth 100000
set_option maxHeartbeats 4000000
namespace L2.EH
open PySem PySem.Spec PyProof.Rows StX
/-! ### built-in names that the module does not bind -/
structure BN (mg : Str → Option Value) : Prop where
  isinst : mg "isinstance" = none
  int : mg "int" = none
  bool : mg "bool" = none
  tuple : mg "tuple" = none
  str : mg "str" = none
  list : mg "list" = none
  len : mg "len" = none
  all : mg "all" = none
  sum : mg "sum" = none
  range : mg "range" = none
  enum : mg "enumerate" = none
  zip : mg "zip" = none
  sorted : mg "sorted" = none
  abs : mg "abs" = none
  divmod : mg "divmod" = none
  repr : mg "repr" = none
  max : mg "max" = none
  min : mg "min" = none
def spIsWhole : Sp := fun vs H Q _ => ∃ z : Int, vs = [.int z] ∧ Q (.bl true) H
def spIsRowOf (K : PySem.W.Frag) : Sp := fun vs H Q _ => ∃ (a : Addr) (xs : List V) (n : Int), vs = [.ref a, .int n] ∧ SqT K H a xs ∧ Q (.bl (decide ((xs.length : Int) = n))) H
def fracOk (p : Int × Int) : Bool := decide (1 ≤ p.2) && decide (Int.gcd p.1 p.2 = 1)
def spIsFraction (K : PySem.W.Frag) : Sp := fun vs H Q _ => ∃ (v : V) (p : Int × Int), vs = [v] ∧ Dp K H v (pairD p) ∧ Q (.bl (fracOk p)) H
def frowOk (n : Int) (ps : List (Int × Int)) : Bool := decide ((ps.length : Int) = n) && ps.all fracOk
def spIsFractionRow (K : PySem.W.Frag) : Sp := fun vs H Q _ => ∃ (v : V) (ps : List (Int × Int)) (n : Int), vs = [v, .int n] ∧ Dp K H v (prowD ps) ∧ ps.length ≤ 1000 ∧ ∀ H', Same H H' → Q (.bl (frowOk n ps)) H'
def spIsBetween : Sp := fun vs H Q _ => ∃ z lo hi : Int, vs = [.int z, .int lo, .int hi] ∧ Q (.bl (decide (lo ≤ z ∧ z ≤ hi))) H
def squareOk (n : Int) (M : List (List (Int × Int))) : Bool := decide ((M.length : Int) = n) && M.all (frowOk n)
def matD (M : List (List (Int × Int))) : PyData := .tuple (M.map prowD)
def spIsSquare (K : PySem.W.Frag) : Sp := fun vs H Q _ => ∃ (v : V) (M : List (List (Int × Int))) (n : Int), vs = [v, .int n] ∧ Dp K H v (matD M) ∧ M.length ≤ 1000 ∧ (∀ r, r ∈ M → r.length ≤ 1000) ∧ ∀ H', Same H H' → Q (.bl (squareOk n M)) H'
theorem scIsWhole : FnScope ["value"] ["value"] (defScope sIsWhole) := ⟨rfl, rfl, rfl, by decide +kernel, rfl, by decide +kernel, by decide +kernel⟩
theorem scIsRowOf : FnScope ["value", "many"] ["value", "many"] (defScope sIsRowOf) := ⟨rfl, rfl, rfl, by decide +kernel, rfl, by decide +kernel, by decide +kernel⟩
theorem scIsFraction : FnScope ["value"] ["value"] (defScope sIsFraction) := ⟨rfl, rfl, rfl, by decide +kernel, rfl, by decide +kernel, by decide +kernel⟩
theorem scIsFractionRow : FnScope ["value", "many", "pair"] ["value", "many"] (defScope sIsFractionRow) := ⟨rfl, rfl, rfl, by decide +kernel, rfl, by decide +kernel, by decide +kernel⟩
theorem scIsBetween : FnScope ["value", "low", "high"] ["value", "low", "high"] (defScope sIsBetween) := ⟨rfl, rfl, rfl, by decide +kernel, rfl, by decide +kernel, by decide +kernel⟩
theorem scIsSquare : FnScope ["value", "many", "row"] ["value", "many"] (defScope sIsSquare) := ⟨rfl, rfl, rfl, by decide +kernel, rfl, by decide +kernel, by decide +kernel⟩
/-- all([f(x) for x in t]) over a tuple whose items stay -/
theorem eq_int_dec (a b : Int) : decide (V.int a = V.int b) = decide (a = b) := by
  by_cases h : a = b
  · subst h; simp
  · rw [decide_eq_false h, decide_eq_false (fun q => h (by injection q))]
section
variable {P : Program} {w : World} {K : PySem.W.Frag} {mg : Str → Option Value} {base : Heap}
theorem ok_isWhole {f : Addr} {fd : FuncData} (F : Fun K "is_whole" "is_whole" sIsWhole f fd) (B : BN mg) : FnOk P w K mg base CX0 1 f fd ["value"] spIsWhole := by
  refine F.ok scIsWhole (fun vs H Q E h => ?_) (fun cdv A outer s H vs Q E hr h => ?_)
  · obtain ⟨z, rfl, _⟩ := h
    rfl
  · obtain ⟨z, rfl, k⟩ := h
    refine ⟨_, pss_one (ps_ret (pe_and (pe_callB call_isi (by rfl) B.isinst (by decide +kernel) (pa_cons (pv 0) (pa_cons (pe_bltn (v := .ty "int") (by rfl) B.int (by decide +kernel) rfl) pa_nil)))
      (pe_one (pe_not (pe_callB call_isi (by rfl) B.isinst (by decide +kernel) (pa_cons (pv 0) (pa_cons (pe_bltn (v := .ty "bool") (by rfl) B.bool (by decide +kernel) rfl) pa_nil)))))) ), ?_⟩
    refine ⟨_, rfl, _, _, .type "int", .type "int", true, rfl, .ty _, .base (.int _), kit_ty (by decide +kernel), _, rfl, ?_⟩
    refine iteT ⟨_, rfl, _, _, .type "int", .type "bool", false, rfl, .ty _, .base (.int _), kit_ty (by decide +kernel), _, rfl, ?_⟩
    exact k
theorem ok_isRowOf {f : Addr} {fd : FuncData} (F : Fun K "is_row_of" "is_row_of" sIsRowOf f fd) (B : BN mg) : FnOk P w K mg base CX0 1 f fd ["value", "many"] (spIsRowOf K) := by
  refine F.ok scIsRowOf (fun vs H Q E h => ?_) (fun cdv A outer s H vs Q E hr h => ?_)
  · obtain ⟨a, xs, n, rfl, _⟩ := h
    rfl
  · obtain ⟨a, xs, n, rfl, ha, k⟩ := h
    refine ⟨_, pss_one (ps_ret (pe_and (pe_callB call_isi (by rfl) B.isinst (by decide +kernel) (pa_cons (pv 0) (pa_cons (pe_bltn (v := .ty "tuple") (by rfl) B.tuple (by decide +kernel) rfl) pa_nil)))
      (pe_one (pe_cmpR op_eq (pe_callB call_len (by rfl) B.len boot_len (pa_cons (pv 0) pa_nil)) (pv 1) (nomark _))))), ?_⟩
    refine ⟨_, rfl, _, _, .type "tuple", .type "tuple", true, rfl, .ty _, sqT_ty ha, kit_ty (by decide +kernel), _, rfl, ?_⟩
    refine iteT ⟨_, rfl, _, _, rfl, .inr ⟨_, ha, rfl⟩, _, rfl, rfl, ?_⟩
    rw [eq_int_dec]; exact k
theorem ok_isFraction {f fW fR : Addr} {fd fdW fdR : FuncData} (F : Fun K "is_fraction" "is_fraction" sIsFraction f fd) (G3 : mg "gcd" = some (.builtin "math.gcd"))
    (FW : Fn' P w K mg base 1 "is_whole" fW fdW ["value"] spIsWhole) (FR : Fn' P w K mg base 1 "is_row_of" fR fdR ["value", "many"] (spIsRowOf K)) : FnOk P w K mg base CX0 2 f fd ["value"] (spIsFraction K) := by
  refine F.ok scIsFraction (fun vs H Q E h => ?_) (fun cdv A outer s H vs Q E hr h => ?_)
  · obtain ⟨v, p, rfl, _⟩ := h
    rfl
  · obtain ⟨v, p, rfl, hd, k⟩ := h
    obtain ⟨a, rfl, ha⟩ := dp_pair hd
    have at0 : atI [V.int p.1, V.int p.2] 0 = some (V.int p.1) := rfl
    have at1 : atI [V.int p.1, V.int p.2] 1 = some (V.int p.2) := rfl
    refine ⟨_, pss_cons (ps_if (PW.pt (pw_or (pt_not (pt_val (pe_call FR.ok hr (by rfl) FR.m FR.k FR.b .nil pass0 (pa_cons (pv 0) (pa_cons pe_int pa_nil)))))
        (pw_or (pt_not (pt_val (pe_call FW.ok hr (by rfl) FW.m FW.k FW.b .nil pass0 (pa_cons (pe_ix ix_tup (pv 0) pe_int (fun _ _ => rfl)) pa_nil))))
        (pw_or1 (pt_not (pt_val (pe_call FW.ok hr (by rfl) FW.m FW.k FW.b .nil pass0 (pa_cons (pe_ix ix_tup (pv 0) pe_int (fun _ _ => rfl)) pa_nil)))))))) (pss_one (ps_ret pe_bl)) pss_nil)
      (pss_one (ps_ret (pe_and (pe_cmpR op_ge (pe_ix ix_tup (pv 0) pe_int (fun _ _ => rfl)) pe_int (nomark _))
        (pe_one (pe_cmpR op_eq (pe_callBfun cr_gcd (by rfl) G3 (pa_cons (pe_ix ix_tup (pv 0) pe_int (fun _ _ => rfl)) (pa_cons (pe_ix ix_tup (pv 0) pe_int (fun _ _ => rfl)) pa_nil))) pe_int (nomark _)))))), ?_⟩
    refine ⟨_, rfl, a, _, 2, rfl, ha, _, rfl, iteF ?_⟩
    refine ⟨_, rfl, a, _, _, _, rfl, rfl, ha, at0, p.1, rfl, _, rfl, iteF ?_⟩
    refine ⟨_, rfl, a, _, _, _, rfl, rfl, ha, at1, p.2, rfl, _, rfl, iteF ?_⟩
    refine ⟨_, rfl, a, _, _, _, rfl, rfl, ha, at1, _, _, rfl, rfl, _, rfl, ?_⟩
    by_cases h1 : (1 : Int) ≤ p.2
    · rw [decide_eq_true h1]
      refine iteT ⟨_, rfl, a, _, _, _, rfl, rfl, ha, at0, _, rfl, a, _, _, _, rfl, rfl, ha, at1, _, _, rfl, rfl, ?_⟩
      have e : fracOk p = decide (V.int ((Nat.gcd p.1.natAbs p.2.natAbs : Nat) : Int) = V.int 1) := by
        rw [eq_int_dec]
        unfold fracOk
        rw [decide_eq_true h1, Bool.true_and]
        have : (((Nat.gcd p.1.natAbs p.2.natAbs : Nat) : Int) = 1) ↔ Int.gcd p.1 p.2 = 1 := by
          show ((Int.gcd p.1 p.2 : Nat) : Int) = 1 ↔ _
          omega
        exact decide_eq_decide.2 this.symm
      rw [e] at k
      exact k
    · rw [decide_eq_false h1]
      refine iteF ?_
      have e : fracOk p = false := by
        unfold fracOk
        rw [decide_eq_false h1, Bool.false_and]
      rw [e] at k
      exact k
theorem ok_isBetween {f fW : Addr} {fd fdW : FuncData} (F : Fun K "is_between" "is_between" sIsBetween f fd) (FI : Fn' P w K mg base 1 "is_whole" fW fdW ["value"] spIsWhole) : FnOk P w K mg base CX0 2 f fd ["value", "low", "high"] spIsBetween := by
  refine F.ok scIsBetween (fun vs H Q E h => ?_) (fun cdv A outer s H vs Q E hr h => ?_)
  · obtain ⟨z, lo, hi, rfl, _⟩ := h
    rfl
  · obtain ⟨z, lo, hi, rfl, k⟩ := h
    refine ⟨_, pss_one (ps_ret (pe_and (pe_call FI.ok hr rfl FI.m FI.k FI.b .nil pass0 (pa_cons (pv 0) pa_nil)) (pe_one (pe_chain op_le op_le (pv 1) (pv 0) (pv 2))))), ?_⟩
    refine ⟨_, rfl, z, rfl, _, rfl, iteT ⟨_, rfl, _, rfl, _, _, rfl, rfl, _, rfl, ?_⟩⟩
    by_cases h : lo ≤ z
    · rw [decide_eq_true h]
      refine iteT ⟨_, rfl, _, _, rfl, rfl, ?_⟩
      have e : decide (lo ≤ z ∧ z ≤ hi) = decide (z ≤ hi) := by simp [h]
      rw [e] at k; exact k
    · rw [decide_eq_false h]
      refine iteF ?_
      have e : decide (lo ≤ z ∧ z ≤ hi) = false := by simp [h]
      rw [e] at k; exact k
end
end L2.EH
end S_Q1
section S_Q2
set_option maxRecDepth 100000
set_option maxHeartbeats 4000000
namespace L2.EH
open PySem PySem.Spec PyProof.Rows StX
/-! ### all([test(x) for x in t]): the list of answers -/
theorem take_snoc' {α : Type} (r : List α) (i : Nat) (q : α) (h : r[i]? = some q) : r.take (i + 1) = r.take i ++ [q] := by
  obtain ⟨hi, e⟩ := List.getElem?_eq_some_iff.1 h
  rw [List.take_succ_eq_append_getElem hi, e]
/-- the heap while the list at D grows: what stood stands, D holds the answers so far -/
structure Grow (H : Hp) (D : Addr) (vs : List V) (H' : Hp) : Prop where
  s : Same H H'
  d : H' D = some (.lst vs)
theorem Grow.start {H : Hp} {D : Addr} (nD : H D = none) : Grow H D [] (upd H D (.lst [])) := ⟨same_new nD, upd_same⟩
theorem Grow.step {H H' : Hp} {D : Addr} {vs : List V} (nD : H D = none) (g : Grow H D vs H') (v : V) : Grow H D (vs ++ [v]) (upd H' D (.lst (vs ++ [v]))) :=
  ⟨fun b o e => by rw [upd_ne (by intro z; rw [z, nD] at e; cases e)]; exact g.s _ _ e, upd_same⟩
theorem Grow.same {H H' H2 : Hp} {D : Addr} {vs : List V} (g : Grow H D vs H') (s : Same H' H2) : Grow H D vs H2 := ⟨g.s.trans s, s _ _ g.d⟩
section
variable {P : Program} {w : World} {K : PySem.W.Frag} {mg : Str → Option Value} {base : Heap}
theorem ok_isFractionRow {f fF fR : Addr} {fd fdF fdR : FuncData} (F : Fun K "is_fraction_row" "is_fraction_row" sIsFractionRow f fd) (B : BN mg)
    (FF : Fn' P w K mg base 2 "is_fraction" fF fdF ["value"] (spIsFraction K)) (FR : Fn' P w K mg base 1 "is_row_of" fR fdR ["value", "many"] (spIsRowOf K)) : FnOk P w K mg base CX0 3 f fd ["value", "many"] (spIsFractionRow K) := by
  refine F.ok scIsFractionRow (fun vs H Q E h => ?_) (fun cdv A outer s H vs Q E hr h => ?_)
  · obtain ⟨v, ps, n, rfl, _⟩ := h
    rfl
  · obtain ⟨v, ps, n, rfl, hd, hl, k⟩ := h
    obtain ⟨a, xs, rfl, ha, hx⟩ := dp_tup hd
    have hlen : xs.length = ps.length := by rw [dpAll_len hx, List.length_map]
    have nd := scIsFractionRow.nd
    refine ⟨_, pss_one (ps_ret (pe_and (pe_call FR.ok (by exact hr.mono (by decide)) (by rfl) FR.m FR.k FR.b .nil pass0 (pa_cons (pv 0) (pa_cons (pv 1) pa_nil)))
      (pe_one (pe_callB (cr_all rfl) (by rfl) B.all (by decide +kernel) (pa_cons (pe_lc (own := [("pair", 2)]) (g := gName 2) (tt := tYes) rfl nd (pi_tup (pv 0)) (blkOk_by (own := [("pair", 2)]) (N := ["value", "many", "pair"]) (sc := defScope sIsFractionRow) (by decide +kernel)) (fun _ _ _ _ _ => pg_name (i := 2) nd rfl (Or.inl rfl) (Or.inr rfl)) (fun _ _ _ _ _ => pts_nil)
        (fun _ _ _ _ _ => pe_call FF.ok (by exact hr) (by rfl) FF.m FF.k FF.b .nil pass0 (pa_cons (pv 2) pa_nil))) pa_nil))))), ?_⟩
    refine ⟨_, rfl, _, rfl, a, xs, n, rfl, ha, _, rfl, ?_⟩
    by_cases h1 : ((ps.length : Nat) : Int) = n
    · rw [decide_eq_true (by rw [hlen]; exact h1)]
      refine iteT ⟨_, rfl, a, rfl, ⟨_, ha⟩, fun D nD => ?_⟩
      refine lc_out (walk_tup (xs := xs)) (fun i Hc => Grow H D (((ps.take i).map fracOk).map V.bl) Hc) (Grow.start nD) (fun i Hc _ g => same_tup g.s ha) ?_ ?_
      · rintro i x Hc H' hi g ⟨rfl, hx'⟩
        obtain ⟨d, hd1, hd2⟩ := dpAll_get' hx hx'
        rw [List.getElem?_map] at hd1
        cases e : ps[i]? with
        | none => rw [e] at hd1; cases hd1
        | some p =>
          rw [e] at hd1
          cases hd1
          refine ⟨rfl, _, rfl, x, p, rfl, dp_same g.s hd2, ?_⟩
          refine ⟨_, g.d, by rw [List.length_map, List.length_map, List.length_take]; exact small1000 (by omega), ?_⟩
          have := g.step nD (V.bl (fracOk p))
          rw [show ((ps.take (i + 1)).map fracOk).map V.bl = ((ps.take i).map fracOk).map V.bl ++ [V.bl (fracOk p)] by rw [take_snoc' ps i p e, List.map_append, List.map_append]; rfl]
          exact this
      · intro Hc g
        rw [hlen, List.take_length] at g
        refine ⟨D, _, rfl, SqL.of g.d, ?_⟩
        have e : frowOk n ps = (ps.map fracOk).all id := by
          unfold frowOk
          rw [decide_eq_true h1, Bool.true_and, List.all_map]; rfl
        rw [← e]
        exact k _ g.s
    · rw [decide_eq_false (by rw [hlen]; exact h1)]
      refine iteF ?_
      have e : frowOk n ps = false := by
        unfold frowOk
        rw [decide_eq_false h1, Bool.false_and]
      have := k H (Same.refl H)
      rw [e] at this
      exact this
theorem ok_isSquare {f fF fR : Addr} {fd fdF fdR : FuncData} (F : Fun K "is_square" "is_square" sIsSquare f fd) (B : BN mg)
    (FF : Fn' P w K mg base 3 "is_fraction_row" fF fdF ["value", "many"] (spIsFractionRow K)) (FR : Fn' P w K mg base 1 "is_row_of" fR fdR ["value", "many"] (spIsRowOf K)) : FnOk P w K mg base CX0 4 f fd ["value", "many"] (spIsSquare K) := by
  refine F.ok scIsSquare (fun vs H Q E h => ?_) (fun cdv A outer s H vs Q E hr h => ?_)
  · obtain ⟨v, ps, n, rfl, _⟩ := h
    rfl
  · obtain ⟨v, ps, n, rfl, hd, hl, hl2, k⟩ := h
    obtain ⟨a, xs, rfl, ha, hx⟩ := dp_tup hd
    have hlen : xs.length = ps.length := by rw [dpAll_len hx, List.length_map]
    have nd := scIsSquare.nd
    refine ⟨_, pss_one (ps_ret (pe_and (pe_call FR.ok (by exact hr.mono (by decide)) (by rfl) FR.m FR.k FR.b .nil pass0 (pa_cons (pv 0) (pa_cons (pv 1) pa_nil)))
      (pe_one (pe_callB (cr_all rfl) (by rfl) B.all (by decide +kernel) (pa_cons (pe_lc (own := [("row", 2)]) (g := gName 2) (tt := tYes) rfl nd (pi_tup (pv 0)) (blkOk_by (own := [("row", 2)]) (N := ["value", "many", "row"]) (sc := defScope sIsSquare) (by decide +kernel)) (fun _ _ _ _ _ => pg_name (i := 2) nd rfl (Or.inl rfl) (Or.inr rfl)) (fun _ _ _ _ _ => pts_nil)
        (fun _ _ _ _ _ => pe_call FF.ok (by exact hr) (by rfl) FF.m FF.k FF.b .nil pass0 (pa_cons (pv 2) (pa_cons (pv 1) pa_nil)))) pa_nil))))), ?_⟩
    refine ⟨_, rfl, _, rfl, a, xs, n, rfl, ha, _, rfl, ?_⟩
    by_cases h1 : ((ps.length : Nat) : Int) = n
    · rw [decide_eq_true (by rw [hlen]; exact h1)]
      refine iteT ⟨_, rfl, a, rfl, ⟨_, ha⟩, fun D nD => ?_⟩
      refine lc_out (walk_tup (xs := xs)) (fun i Hc => Grow H D (((ps.take i).map (frowOk n)).map V.bl) Hc) (Grow.start nD) (fun i Hc _ g => same_tup g.s ha) ?_ ?_
      · rintro i x Hc H' hi g ⟨rfl, hx'⟩
        obtain ⟨d, hd1, hd2⟩ := dpAll_get' hx hx'
        rw [List.getElem?_map] at hd1
        cases e : ps[i]? with
        | none => rw [e] at hd1; cases hd1
        | some p =>
          rw [e] at hd1
          cases hd1
          refine ⟨rfl, _, rfl, _, rfl, x, p, n, rfl, dp_same g.s hd2, hl2 p (List.mem_of_getElem? e), fun H2 s2 => ?_⟩
          refine ⟨_, (g.same s2).d, by rw [List.length_map, List.length_map, List.length_take]; exact small1000 (by omega), ?_⟩
          have := (g.same s2).step nD (V.bl (frowOk n p))
          rw [show ((ps.take (i + 1)).map (frowOk n)).map V.bl = ((ps.take i).map (frowOk n)).map V.bl ++ [V.bl (frowOk n p)] by rw [take_snoc' ps i p e, List.map_append, List.map_append]; rfl]
          exact this
      · intro Hc g
        rw [hlen, List.take_length] at g
        refine ⟨D, _, rfl, SqL.of g.d, ?_⟩
        have e : squareOk n ps = (ps.map (frowOk n)).all id := by
          unfold squareOk
          rw [decide_eq_true h1, Bool.true_and, List.all_map]; rfl
        rw [← e]
        exact k _ g.s
    · rw [decide_eq_false (by rw [hlen]; exact h1)]
      refine iteF ?_
      have e : squareOk n ps = false := by
        unfold squareOk
        rw [decide_eq_false h1, Bool.false_and]
      have := k H (Same.refl H)
      rw [e] at this
      exact this
end
end L2.EH
end S_Q2
section S_Z1
set_option maxRecDepth 100000
set_option maxHeartbeats 4000000
/-! zip and enumerate over lists and tuples in any mix. -/
namespace L2.EH
open PySem PySem.Spec PyProof.Rows L2
/-- a tuple (true) or a list (false) of these at a -/
def SqK (t : Bool) (K : PySem.W.Frag) (H : Hp) (a : Addr) (xs : List V) : Prop := match t with
  | true => SqT K H a xs
  | false => SqL K H a xs
def ItI (t : Bool) (h : Heap) (it a : Addr) (i : Nat) : Prop := match t with
  | true => h.IsTupleIter it a i
  | false => h.IsListIter it a i
def ItS (t : Bool) (h : Heap) (a : Addr) (its : Array Value) : Prop := match t with
  | true => h.IsTuple a its
  | false => h.IsList a its
def ItO (t : Bool) (a : Addr) : Obj := match t with
  | true => { cls := .type "tuple_iterator", data := .fields #[.ref a, .int 0 0] }
  | false => { cls := .type "list_iterator", data := .fields #[.ref a, .int 0 0] }
theorem SqK.same {t : Bool} {K : PySem.W.Frag} {H H' : Hp} {a : Addr} {xs : List V} (s : Same H H') (h : SqK t K H a xs) : SqK t K H' a xs := by
  cases t
  · exact s.seq h
  · exact same_tup s h
theorem itS_of {t : Bool} {X : Cx} {pins : List (Addr × Obj)} {σ : L2.St} {H : Hp} {s : Shared} {a : Addr} {xs : List V} (I : Inv X pins σ H s) (h : SqK t X.K H a xs) :
    ∃ its : List Value, Vals xs its ∧ ItS t s.heap a its.toArray := by
  cases t
  · obtain ⟨its, r, p, _⟩ := I.list h
    exact ⟨its, r, p.isList⟩
  · obtain ⟨its, r, p, _⟩ := I.tuple h
    exact ⟨its, r, p⟩
theorem itK_inj {t : Bool} {X : Cx} {pins : List (Addr × Obj)} {σ : L2.St} {H : Hp} {s : Shared} {a : Addr} {xs ys : List V} (I : Inv X pins σ H s) (h : SqK t X.K H a xs) (h' : SqK t X.K H a ys) : xs = ys := by
  cases t
  · exact I.list_inj h h'
  · exact I.tuple_inj h h'
theorem itD (t : Bool) {prog : Program} {w : World} {A : Around} (hh : A.handled = none) (it a : Addr) (ne : a ≠ it) (its : Array Value) : Draws prog w A it [it, a] its.size (fun i v => its[i]? = some v) (fun i h => ItI t h it a i ∧ ItS t h a its) := by
  cases t
  · exact Draws.list hh it a ne its
  · exact Draws.tuple hh it a ne its
theorem itB (t : Bool) (a : Addr) (its : Array Value) : Begins (.ref a) (ItO t a) fun h => ItS t h a its := by
  cases t
  · exact begins_list a its
  · exact begins_tuple a its
theorem itI_at {t : Bool} {h h' : Heap} {it a : Addr} {i : Nat} (x : ItI t h it a i) (k : ∀ o, h.get? it = some o → h'.get? it = some o) : ItI t h' it a i := by
  cases t
  · exact Heap.IsListIter.at x k
  · exact Heap.IsTupleIter.at x k
theorem itI_obj {t : Bool} {h : Heap} {it a : Addr} {i : Nat} (x : ItI t h it a i) : ∃ o, h.get? it = some o ∧ ∀ v, o.data ≠ .cell v := by
  cases t
  · obtain ⟨o, e, _, d⟩ := x
    exact ⟨o, e, fun v q => by rw [d] at q; cases q⟩
  · obtain ⟨o, e, _, d⟩ := x
    exact ⟨o, e, fun v q => by rw [d] at q; cases q⟩
theorem itI_begin {t : Bool} {h : Heap} {it a : Addr} (e : h.get? it = some (ItO t a)) : ItI t h it a 0 := by
  cases t
  · exact ⟨_, e, rfl, rfl⟩
  · exact ⟨_, e, rfl, rfl⟩
theorem itS_lt {t : Bool} {h : Heap} {a : Addr} {its : Array Value} (x : ItS t h a its) : a < h.objs.size := by
  cases t
  · obtain ⟨o, e, _⟩ := x; exact Heap.lt_size e
  · obtain ⟨o, e, _⟩ := x; exact Heap.lt_size e
/-! ### zip -/
def ItzK (t u : Bool) (K : PySem.W.Frag) (a b : Addr) : It :=
  ⟨fun i H => ∃ (xs ys : List V) (x y : V), SqK t K H a xs ∧ SqK u K H b ys ∧ xs[i]? = some x ∧ ys[i]? = some y,
   fun i H v H' => ∃ T x y, v = .ref T ∧ H T = none ∧ H' = upd H T (.tup [x, y]) ∧ (∀ xs, SqK t K H a xs → xs[i]? = some x) ∧ ∀ ys, SqK u K H b ys → ys[i]? = some y,
   fun i H => ∃ xs ys : List V, SqK t K H a xs ∧ SqK u K H b ys ∧ i = min xs.length ys.length⟩
theorem turn_zipK {P : Program} {w : World} {K : PySem.W.Frag} {es : List Expr} {kk : Nat} {tp : Pos} (t u : Bool) {a b z TI TO i1 i2 : Addr} (S : ZipSep2 z TI TO i1 i2 [i1, a] [i2, b]) (ne1 : a ≠ i1) (ne2 : b ≠ i2) :
    Turn P w K (.Tuple es kk tp) (ItzK t u K a b) [z, TI, TO, i1, i2] z (fun i h => IsZip h z TI TO .none ∧ IsTupOf2 h TI (.ref i1) (.ref i2) ∧ (∃ x y, IsTupOf2 h TO x y) ∧ ItI t h i1 a i ∧ ItI u h i2 b i) where
  mem := by simp
  obj := fun i h st c hc => by
    obtain ⟨q1, q2, ⟨x, y, q3⟩, q4, q5⟩ := st
    have e : c = z ∨ c = TI ∨ c = TO ∨ c = i1 ∨ c = i2 := by simpa using hc
    rcases e with rfl | rfl | rfl | rfl | rfl
    · exact ⟨_, q1, fun v q => nomatch q⟩
    · exact ⟨_, q2, fun v q => nomatch q⟩
    · exact ⟨_, q3, fun v q => nomatch q⟩
    · exact itI_obj q4
    · exact itI_obj q5
  keep := fun i h h' st k => by
    obtain ⟨q1, q2, ⟨x, y, q3⟩, q4, q5⟩ := st
    exact ⟨k z (by simp) _ q1, k TI (by simp) _ q2, ⟨x, y, k TO (by simp) _ q3⟩, itI_at q4 fun o => k i1 (by simp) o, itI_at q5 fun o => k i2 (by simp) o⟩
  item := by
    intro X hP hw hK hc i pins s σ H E I hf st hg
    subst hP hw hK
    obtain ⟨xs, ys, x, y, hqx, hqy, hx, hy⟩ := hg
    obtain ⟨q1, q2, q3, q4, q5⟩ := st
    obtain ⟨its, r1, p1⟩ := itS_of I hqx
    obtain ⟨jts, r2, p2⟩ := itS_of I hqy
    obtain ⟨u1, hu1, ru1⟩ := r1.get hx
    obtain ⟨u2, hu2, ru2⟩ := r2.get hy
    have l1 : i < its.toArray.size := by
      obtain ⟨h, _⟩ := List.getElem?_eq_some_iff.1 hu1
      simpa using h
    have l2 : i < jts.toArray.size := by
      obtain ⟨h, _⟩ := List.getElem?_eq_some_iff.1 hu2
      simpa using h
    have hd : X.A.in1.handled = none := I.ok.hd hc
    have G := GoesN.zip2 (elts := es) (x1 := kk) (pos := tp) S (itD t (prog := X.prog) (w := X.w) hd i1 a ne1 its.toArray) (itD u (prog := X.prog) (w := X.w) hd i2 b ne2 jts.toArray)
    refine G.goes i s _ E (Nat.lt_min.2 ⟨l1, l2⟩) ⟨q1, q2, q3, ⟨q4, p1⟩, ⟨q5, p2⟩⟩ fun v h' tk hY st' hk htk => ?_
    obtain ⟨T, v1, v2, rfl, hT, e1, e2, tup⟩ := hY
    have w1 : v1 = u1 := by
      have : its.toArray[i]? = some u1 := by simpa using hu1
      rw [this] at e1; exact (Option.some.inj e1).symm
    have w2 : v2 = u2 := by
      have : jts.toArray[i]? = some u2 := by simpa using hu2
      rw [this] at e2; exact (Option.some.inj e2).symm
    subst w1 w2
    have new : ObjOk X.prog X.w (upd H T (.tup [x, y])) h' T (.tup [x, y]) := ⟨by show 2 ≤ sizeLine; decide, [v1, v2], .cons ru1 (.cons ru2 .nil), tup⟩
    have I1 : Inv X pins σ (upd H T (.tup [x, y])) { s with heap := h', toks := tk } :=
      I.turnedNew (ch := [z, TI, TO, i1, i2]) (fun c o hb q => hk c o (fun m => hb (by simp at m; rcases m with m | m | m | m <;> simp [m])) q) hf hT new
    refine ⟨.ref T, _, I1, rfl, ⟨T, x, y, rfl, I.hok.fresh hT, rfl, fun l hl => by rw [itK_inj I hl hqx]; exact hx, fun l hl => by rw [itK_inj I hl hqy]; exact hy⟩, ⟨st'.1, st'.2.1, st'.2.2.1, st'.2.2.2.1.1, st'.2.2.2.2.1⟩, fun c hcm => ?_⟩
    have hlt : c < s.heap.objs.size := by
      have e : c = z ∨ c = TI ∨ c = TO ∨ c = i1 ∨ c = i2 := by simpa using hcm
      rcases e with rfl | rfl | rfl | rfl | rfl
      · exact Heap.lt_size q1
      · exact Heap.lt_size q2
      · obtain ⟨_, _, q⟩ := q3; exact Heap.lt_size q
      · obtain ⟨_, q, _⟩ := itI_obj q4; exact Heap.lt_size q
      · obtain ⟨_, q, _⟩ := itI_obj q5; exact Heap.lt_size q
    rw [upd_ne (Nat.ne_of_lt (Nat.lt_of_lt_of_le hlt hT))]
    exact (hf c hcm).1
  done := by
    intro X hP hw hK hc i pins s σ H E I hf st hg
    subst hP hw hK
    obtain ⟨xs, ys, hqx, hqy, hend⟩ := hg
    obtain ⟨q1, q2, ⟨a1, a2, q3⟩, q4, q5⟩ := st
    obtain ⟨its, r1, p1⟩ := itS_of I hqx
    obtain ⟨jts, r2, p2⟩ := itS_of I hqy
    have hd : X.A.in1.handled = none := I.ok.hd hc
    have G := GoesN.zip2 (elts := es) (x1 := kk) (pos := tp) S (itD t (prog := X.prog) (w := X.w) hd i1 a ne1 its.toArray) (itD u (prog := X.prog) (w := X.w) hd i2 b ne2 jts.toArray)
    have ei : i = min its.toArray.size jts.toArray.size := by
      rw [hend, r1.length, r2.length]; simp
    subst ei
    exact G.stops s _ E ⟨q1, q2, ⟨a1, a2, q3⟩, ⟨q4, p1⟩, ⟨q5, p2⟩⟩ fun h' tk hk htk => I.turnedL (t' := tk) (ch := [z, TI, TO, i1, i2]) (fun c o hb q => hk c o (fun m => hb (by simp at m; rcases m with m | m | m | m <;> simp [m])) q) hf
  self := fun A i s Q E st h => wpAny_pyIter_zip st.1 h
/-- the reading: the two sources, lists or tuples -/
def iZipK (t u : Bool) (K : PySem.W.Frag) (ta : TA) : TI := fun σ H R => ta σ H fun vs H1 => ∃ a b xs ys, vs = [.ref a, .ref b] ∧ SqK t K H1 a xs ∧ SqK u K H1 b ys ∧ R (ItzK t u K a b) H1
theorem pi_zipK {X : Cx} (t u : Bool) {e e2 : Expr} {ta : TA} {p pos tp : Pos} {es : List Expr} {kk : Nat} (hg : Gl X "zip") (hm : X.mg "zip" = none) (ha : PA X [e, e2] ta)
    (hs : starEach [e, e2] X.env = (false, eval e X.env) :: starEach [e2] X.env := by rfl) (hpl : (backTo pos (starEach [e2] X.env)).any (·.1) = false := by rfl) :
    PI X (.Tuple es kk tp) (.Call (.Name "zip" p) [e, e2] [] pos) (iZipK t u X.K ta) := by
  constructor
  intro pins s σ H R I h
  refine Call_ (ld_blt I hg hm PyProof.Rows.boot_zip (PyProof.Rows.callWith_type1 (thn (ha.run pos pins s σ H _ I h) fun us s1 ⟨vs, H1, I1, r1, a, b, xs, ys, ex, hqx, hqy, q⟩ => ?_) hs hpl))
  subst ex
  cases r1 with
  | cons ra rr =>
    cases rr with
    | cons rb rr =>
      cases rr
      cases ra
      cases rb
      obtain ⟨its, v1, p1⟩ := itS_of I1 hqx
      obtain ⟨jts, v2, p2⟩ := itS_of I1 hqy
      have la := itS_lt p1
      have lb := itS_lt p2
      generalize hN : s1.heap.objs.size = N at *
      refine zip_begins2 (itB t a its.toArray) (itB u b jts.toArray) p1 p2 fun h' z1 z2 z3 z4 z5 z6 hk => ?_
      rw [hN] at z1 z2 z3 z4 z5 z6 ⊢
      refine wpAny_pyIter_zip z1 ?_
      have I2 : Inv X pins σ H1 { s1 with heap := h' } := I1.kept (t' := s1.toks) hk
      refine ⟨N + 4, [N + 4, N + 2, N + 3, N, N + 1], _, _, H1, rfl, I2, turn_zipK t u (zip_sep2 (fp1 := [a]) (fp2 := [b]) (by simpa using la) (by simpa using lb)) (Nat.ne_of_lt la) (Nat.ne_of_lt (Nat.lt_succ_of_lt lb)), ⟨z1, z2, ⟨_, _, z3⟩, itI_begin z4, itI_begin z5⟩, fun c hcm => ?_, q⟩
      have hle : s1.heap.objs.size ≤ c := by
        rw [hN]
        have e : c = N + 4 ∨ c = N + 2 ∨ c = N + 3 ∨ c = N ∨ c = N + 1 := by simpa using hcm
        rcases e with rfl | rfl | rfl | rfl | rfl <;> first | exact Nat.le_add_right _ _ | exact Nat.le_refl _
      exact I1.fpOk hle (I1.hok.fresh hle)
theorem walk_zipK {t u : Bool} {K : PySem.W.Frag} {a b : Addr} {xs ys : List V} {n : Nat} (hn : n = min xs.length ys.length) : Walk (ItzK t u K a b) n (fun H => SqK t K H a xs ∧ SqK u K H b ys) (YPair (fun i => xs[i]?) (fun i => ys[i]?)) := by
  subst hn
  refine ⟨fun i H hi q => ?_, fun H q => ⟨xs, ys, q.1, q.2, rfl⟩, fun i H v H' _ q y => ?_⟩
  · obtain ⟨h1, h2⟩ := Nat.lt_min.1 hi
    exact ⟨xs, ys, xs[i], ys[i], q.1, q.2, List.getElem?_eq_getElem h1, List.getElem?_eq_getElem h2⟩
  · obtain ⟨T, x, y, e1, e2, e3, e4, e5⟩ := y
    exact ⟨T, x, y, e1, e2, e3, e4 _ q.1, e5 _ q.2⟩
/-! ### enumerate -/
def IteK (t : Bool) (K : PySem.W.Frag) (a : Addr) : It :=
  ⟨fun i H => ∃ (xs : List V) (x : V), SqK t K H a xs ∧ xs[i]? = some x,
   fun i H v H' => ∃ T x, v = .ref T ∧ H T = none ∧ H' = upd H T (.tup [.int (i : Nat), x]) ∧ ∀ xs, SqK t K H a xs → xs[i]? = some x,
   fun i H => ∃ xs : List V, SqK t K H a xs ∧ i = xs.length⟩
theorem turn_enumK {P : Program} {w : World} {K : PySem.W.Frag} {es : List Expr} {kk : Nat} {tp : Pos} (t : Bool) {a e it : Addr} (hei : e ≠ it) (hea : e ≠ a) (hai : a ≠ it) :
    Turn P w K (.Tuple es kk tp) (IteK t K a) [e, it] e (fun i h => (∃ old, IsEnum h e it ((0 : Int) + (i : Int)) old) ∧ ItI t h it a i) where
  mem := by simp
  obj := fun i h st c hc => by
    obtain ⟨⟨old, q1⟩, q2⟩ := st
    have z : c = e ∨ c = it := by simpa using hc
    rcases z with rfl | rfl
    · exact ⟨_, q1, fun v q => nomatch q⟩
    · exact itI_obj q2
  keep := fun i h h' st k => ⟨⟨_, k e (by simp) _ st.1.choose_spec⟩, itI_at st.2 fun o => k it (by simp) o⟩
  item := by
    intro X hP hw hK hc i pins s σ H E I hf st hg
    subst hP hw hK
    obtain ⟨xs, x, hqx, hx⟩ := hg
    obtain ⟨q1, q2⟩ := st
    obtain ⟨its, r1, p1⟩ := itS_of I hqx
    obtain ⟨u1, hu1, ru1⟩ := r1.get hx
    have l1 : i < its.toArray.size := by
      obtain ⟨h, _⟩ := List.getElem?_eq_some_iff.1 hu1
      simpa using h
    have hd : X.A.in1.handled = none := I.ok.hd hc
    have G := GoesN.enumFrom (elts := es) (x1 := kk) (pos := tp) 0 (itD t (prog := X.prog) (w := X.w) hd it a hai its.toArray) e hei (by simp [hei, hea]) (by simp)
    refine G.goes i s _ E l1 ⟨q1, q2, p1⟩ fun v h' tk hY st' hk htk => ?_
    obtain ⟨T, tk1, v1, rfl, hT, e1, tup⟩ := hY
    have w1 : v1 = u1 := by
      have : its.toArray[i]? = some u1 := by simpa using hu1
      rw [this] at e1; exact (Option.some.inj e1).symm
    subst w1
    rw [Int.zero_add] at tup
    have new : ObjOk X.prog X.w (upd H T (.tup [.int (i : Nat), x])) h' T (.tup [.int (i : Nat), x]) := ⟨by show 2 ≤ sizeLine; decide, [.int i tk1, v1], .cons ⟨_, rfl⟩ (.cons ru1 .nil), tup⟩
    have I1 : Inv X pins σ (upd H T (.tup [.int (i : Nat), x])) { s with heap := h', toks := tk } := I.turnedNew (ch := [e, it]) hk hf hT new
    refine ⟨.ref T, _, I1, rfl, ⟨T, x, rfl, I.hok.fresh hT, rfl, fun l hl => by rw [itK_inj I hl hqx]; exact hx⟩, ⟨st'.1, st'.2.1⟩, fun c hcm => ?_⟩
    have hlt : c < s.heap.objs.size := by
      have z : c = e ∨ c = it := by simpa using hcm
      rcases z with rfl | rfl
      · obtain ⟨_, q⟩ := q1; exact Heap.lt_size q
      · obtain ⟨_, q, _⟩ := itI_obj q2; exact Heap.lt_size q
    rw [upd_ne (Nat.ne_of_lt (Nat.lt_of_lt_of_le hlt hT))]
    exact (hf c hcm).1
  done := by
    intro X hP hw hK hc i pins s σ H E I hf st hg
    subst hP hw hK
    obtain ⟨xs, hqx, hend⟩ := hg
    obtain ⟨q1, q2⟩ := st
    obtain ⟨its, r1, p1⟩ := itS_of I hqx
    have hd : X.A.in1.handled = none := I.ok.hd hc
    have G := GoesN.enumFrom (elts := es) (x1 := kk) (pos := tp) 0 (itD t (prog := X.prog) (w := X.w) hd it a hai its.toArray) e hei (by simp [hei, hea]) (by simp)
    have ei : i = its.toArray.size := by
      rw [hend, r1.length]; simp
    subst ei
    exact G.stops s _ E ⟨q1, q2, p1⟩ fun h' tk hk htk => I.turnedL (t' := tk) (ch := [e, it]) hk hf
  self := fun A i s Q E st h => by
    obtain ⟨⟨old, q⟩, _⟩ := st
    exact wpAny_pyIter_enum q h
theorem meets_enumK {v : Value} {o : Obj} {S : Heap → Prop} (B : Begins v o S) :
    Meets (Builtin.«enumerate.__new__» ⟨[.type "enumerate", v], []⟩) (fun _ R s => S s.heap ∧
      R (.ok (.ret (.ref (s.heap.push o).objs.size))) { s with heap := (s.heap.push o).push { cls := .type "enumerate", data := .fields #[.none, .bool false, .ref s.heap.objs.size, rawInt 0, .none, .none] } }) := by
  refine .of_wp fun pr wo A R st h => ?_
  rcases st with ⟨hp, g, d, tk, os⟩; obtain ⟨hS, h⟩ := h
  have se := sub_enumerate
  have go : ∀ {A' : Around} {E : Value → Shared → Prop} {Q : Value → Shared → Prop}, Q (.ref hp.objs.size) ⟨hp.push o, g, d, tk, os⟩ → wpAny (model pr wo) A' (pyIter v) Q E ⟨hp, g, d, tk, os⟩ := fun q => B.iter pr wo _ _ ⟨hp, g, d, tk, os⟩ _ hS q
  wp_walk using go
  refine wpAny_stack_any fun sk => wpAny_pure ?_; split
  · rename_i c _ _ _ _ _; cases (c == Value.type "enumerate") <;> (wp_walk using go; exact ⟨_, rfl, h⟩)
  · wp_walk using go; exact ⟨_, rfl, h⟩
theorem call_enumK {v : Value} {o : Obj} {S : Heap → Prop} {pr : Program} {wo : World} {A : Around} {E : Value → Shared → Prop} {st : Shared} {Q : Value → Shared → Prop} (B : Begins v o S) (hS : S st.heap)
    (h : ∀ h', IsEnum h' (st.heap.objs.size + 1) st.heap.objs.size 0 .none → h'.get? st.heap.objs.size = some o → (∀ b q, st.heap.get? b = some q → h'.get? b = some q) → Q (.ref (st.heap.objs.size + 1)) { st with heap := h' }) :
    wpAny (model pr wo) A (call (.type "enumerate") [v]) Q E st := by
  refine callType_new F.called_enumerate (by decide) (F.typeCall_enumerate_1 _) (F.newCall_enumerate_1 _) (fun x => F.args_object_init_2 x _) F.entry_enumerate_new (meets_enumK B) ⟨hS, ?_⟩
  have z : (st.heap.push o).objs.size = st.heap.objs.size + 1 := by rw [Heap.size_push]
  have he := Heap.get?_push_size (st.heap.push o) (o := { cls := .type "enumerate", data := .fields #[.none, .bool false, .ref st.heap.objs.size, rawInt 0, .none, .none] }) rfl
  rw [z] at he
  show _ ∧ _
  rw [z]
  exact ⟨⟨_, he, rfl⟩, h _ he (Heap.get?_push_of_some _ (Heap.get?_push_size _ B.free)) fun b q e => Heap.get?_push_of_some _ (Heap.get?_push_of_some _ e)⟩
def iEnumK (t : Bool) (K : PySem.W.Frag) (ta : TA) : TI := fun σ H R => ta σ H fun vs H1 => ∃ a xs, vs = [.ref a] ∧ SqK t K H1 a xs ∧ R (IteK t K a) H1
theorem pi_enumK {X : Cx} (t : Bool) {e : Expr} {ta : TA} {p pos tp : Pos} {es : List Expr} {kk : Nat} (hg : Gl X "enumerate") (hm : X.mg "enumerate" = none) (ha : PA X [e] ta) (hs : starEach [e] X.env = [(false, eval e X.env)] := by rfl) :
    PI X (.Tuple es kk tp) (.Call (.Name "enumerate" p) [e] [] pos) (iEnumK t X.K ta) := by
  constructor
  intro pins s σ H R I h
  refine Call_ (ld_blt I hg hm boot_enumerate (PyProof.Rows.callWith_type1 (thn (ha.run pos pins s σ H _ I h) fun us s1 ⟨vs, H1, I1, r1, a, xs, ex, hqx, q⟩ => ?_) hs rfl))
  subst ex
  cases r1 with
  | cons ra rr =>
    cases rr
    cases ra
    obtain ⟨its, v1, p1⟩ := itS_of I1 hqx
    have la := itS_lt p1
    generalize hN : s1.heap.objs.size = N at *
    refine call_enumK (itB t a its.toArray) p1 fun h' z1 z2 hk => ?_
    rw [hN] at z1 z2 ⊢
    refine wpAny_pyIter_enum z1 ?_
    have I2 : Inv X pins σ H1 { s1 with heap := h' } := I1.kept (t' := s1.toks) hk
    refine ⟨N + 1, [N + 1, N], _, _, H1, rfl, I2, turn_enumK t (a := a) (Nat.succ_ne_self N) (Nat.ne_of_gt (Nat.lt_succ_of_lt la)) (Nat.ne_of_lt la), ⟨⟨_, by simpa using z1⟩, itI_begin z2⟩, fun c hcm => ?_, q⟩
    have hle : s1.heap.objs.size ≤ c := by
      rw [hN]
      have z : c = N + 1 ∨ c = N := by simpa using hcm
      rcases z with rfl | rfl <;> first | exact Nat.le_add_right _ _ | exact Nat.le_refl _
    exact I1.fpOk hle (I1.hok.fresh hle)
theorem walk_enumK {t : Bool} {K : PySem.W.Frag} {a : Addr} {xs : List V} : Walk (IteK t K a) xs.length (fun H => SqK t K H a xs) (YPair (fun i => some (.int (i : Nat))) (fun i => xs[i]?)) :=
  ⟨fun i _ hi q => ⟨xs, xs[i], q, List.getElem?_eq_getElem hi⟩, fun _ q => ⟨xs, q, rfl⟩, fun i H v H' _ q ⟨T, x, e1, e2, e3, e4⟩ => ⟨T, _, x, e1, e2, e3, rfl, e4 _ q⟩⟩
end L2.EH
end S_Z1
section S_Q3
set_option exponentiation.threshold 2000
set_option maxRecDepth 100000
set_option maxHeartbeats 4000000
namespace L2.EH
open PySem PySem.Spec PyProof.Rows StX
open L2.Halves (has keys)
/-! ### math.lcm -/
def rLcm : List V → Hp → VK → Prop := fun vs H Q => ∃ a b : Int, vs = [.int a, .int b] ∧ a.natAbs < 2 ^ 64 ∧ b.natAbs < 2 ^ 64 ∧ Q (.int ((Nat.lcm a.natAbs b.natAbs : Nat) : Int)) H
theorem cr_lcm {X : Cx} : CallR X (.builtin "math.lcm") rLcm := by
  intro pins s σ H vs us Q I r h
  obtain ⟨a, b, rfl, h1, h2, q⟩ := h
  obtain ⟨t, u, rfl⟩ := Vals.int2 r
  exact PySem.W.mc_lcm h1 h2 fun _ => ⟨.int _, H, I.tok _, ⟨_, rfl⟩, q⟩
/-! ### the mathematics of shared rows -/
def shr (ps : List (Int × Int)) : Nat := ps.foldl (fun n p => Nat.lcm n p.2.natAbs) 1
theorem shr_snoc (ps : List (Int × Int)) (p : Int × Int) : shr (ps ++ [p]) = Nat.lcm (shr ps) p.2.natAbs := by simp [shr]
def shRow (S : Int) : Nat → List (Int × Int) → Halves.Row
  | _, [] => []
  | i, p :: ps => if p.1 ≠ 0 then (i, p.1 * (S / p.2)) :: shRow S (i + 1) ps else shRow S (i + 1) ps
theorem shRow_snoc (S : Int) : ∀ (ps : List (Int × Int)) (i : Nat) (p : Int × Int), shRow S i (ps ++ [p]) = shRow S i ps ++ (if p.1 ≠ 0 then [(i + ps.length, p.1 * (S / p.2))] else [])
  | [], i, p => by
    simp only [List.nil_append, shRow, List.length_nil, Nat.add_zero]
    try split <;> rfl
  | q :: ps, i, p => by
    have ih := shRow_snoc S ps (i + 1) p
    have e : i + 1 + ps.length = i + (q :: ps).length := by simp; omega
    simp only [List.cons_append, shRow, ih, e]
    split <;> rfl
theorem shRow_keys (S : Int) : ∀ (ps : List (Int × Int)) (i k : Nat), k ∈ keys (shRow S i ps) → i ≤ k ∧ k < i + ps.length
  | [], i, k, h => by simp [shRow, keys] at h
  | q :: ps, i, k, h => by
    have ih := shRow_keys S ps (i + 1) k
    simp only [shRow] at h
    split at h
    · rcases (by simpa [keys] using h : k = i ∨ k ∈ keys (shRow S (i + 1) ps)) with e | e
      · subst e; simp
      · have := ih e; simp; omega
    · have := ih h; simp; omega
theorem shRow_nodup (S : Int) : ∀ (ps : List (Int × Int)) (i : Nat), (keys (shRow S i ps)).Nodup
  | [], i => by simp [shRow, keys]
  | q :: ps, i => by
    have ih := shRow_nodup S ps (i + 1)
    simp only [shRow]
    split
    · have : i ∉ keys (shRow S (i + 1) ps) := fun h => by
        have := shRow_keys S ps (i + 1) i h; omega
      show (i :: keys (shRow S (i + 1) ps)).Nodup
      exact List.nodup_cons.2 ⟨this, ih⟩
    · exact ih
theorem shRow_len (S : Int) : ∀ (ps : List (Int × Int)) (i : Nat), (shRow S i ps).length ≤ ps.length
  | [], i => by simp [shRow]
  | q :: ps, i => by
    have ih := shRow_len S ps (i + 1)
    simp only [shRow]
    split <;> simp <;> omega
/-! ### sums of products -/
def prods (r : Halves.Row) (ns : List Int) : List Int := r.map (fun p => p.2 * ns.getD p.1 0)
def rowTimes (r : Halves.Row) (ns : List Int) : Int := (prods r ns).sum
def spRowTimes (K : PySem.W.Frag) : Sp := fun vs H Q _ => ∃ (a b : Addr) (t : Bool) (r : Halves.Row) (ns : List Int) (n m : Nat), vs = [.ref a, .ref b] ∧ H a = some (.dK (rowK r)) ∧ SqK t K H b (ns.map V.int) ∧ (keys r).Nodup ∧ (∀ i, i ∈ keys r → i < ns.length) ∧ r.length ≤ 900 ∧
  (∀ p, p ∈ r → p.2.natAbs < 2 ^ n) ∧ (∀ z, z ∈ ns → z.natAbs < 2 ^ m) ∧ 0 < n ∧ 0 < m ∧ n + m ≤ 1000000 ∧ ∀ H', Same H H' → Q (.int (rowTimes r ns)) H'
def spSharedRow (K : PySem.W.Frag) : Sp := fun vs H Q _ => ∃ (v : V) (ps : List (Int × Int)), vs = [v] ∧ Dp K H v (prowD ps) ∧ ps.length ≤ 900 ∧ (∀ i, shr (ps.take i) < 2 ^ 60) ∧ (∀ p, p ∈ ps → 0 < p.2 ∧ p.2.natAbs < 2 ^ 60 ∧ p.1.natAbs < 2 ^ 1000) ∧
  ∀ H' t d, Same H H' → H t = none → H d = none → H' t = some (.tup [.ref d, .int (shr ps : Int)]) → H' d = some (.dK (rowK (shRow (shr ps : Int) 0 ps))) → Q (.ref t) H'
theorem scRowTimes : FnScope ["tops", "values", "at"] ["tops", "values"] (defScope sRowTimes) := ⟨rfl, rfl, rfl, by decide +kernel, rfl, by decide +kernel, by decide +kernel⟩
theorem scSharedRow : FnScope ["fractions", "shared", "_", "bottom", "at", "top"] ["fractions"] (defScope sSharedRow) := ⟨rfl, rfl, rfl, by decide +kernel, rfl, by decide +kernel, by decide +kernel⟩
section
variable {P : Program} {w : World} {K : PySem.W.Frag} {mg : Str → Option Value} {base : Heap}
theorem ok_rowTimes {f : Addr} {fd : FuncData} (F : Fun K "row_times" "row_times" sRowTimes f fd) (B : BN mg) : FnOk P w K mg base CX0 1 f fd ["tops", "values"] (spRowTimes K) := by
  refine F.ok scRowTimes (fun vs H Q E h => ?_) (fun cdv A outer s H vs Q E hr h => ?_)
  · obtain ⟨a, b, t, r, ns, n, m, rfl, _⟩ := h
    rfl
  · obtain ⟨a, b, t, r, ns, n, m, rfl, ha, hb, hn, hk, hl, hz, hy, n0, m0, hnm, k⟩ := h
    have hu := hu_of hr
    have nd := scRowTimes.nd
    refine ⟨_, pss_one (ps_ret (pe_callB (cr_sum rfl) (by rfl) B.sum (by decide +kernel) (pa_cons (pe_lock (pe_lc (own := [("at", 2)]) (g := gName 2) (tt := tYes) (te := tOp (rI CMulW fun i j => .int (i * j)) (tDGet (tVar 0) (tVar 2)) (tOp (rIx K) (tVar 1) (tVar 2))) rfl nd (pi_keys (pv 0)) (blkOk_by (own := [("at", 2)]) (N := ["tops", "values", "at"]) (sc := defScope sRowTimes) (by decide +kernel))
        (fun _ _ _ _ _ => pg_name (i := 2) nd rfl (Or.inl rfl) (Or.inr rfl)) (fun _ _ _ _ _ => pts_nil)
        (fun _ _ _ _ _ => pe_op op_mulW (pe_dget (by exact hu) (pv 0) (pv 2) (fun _ _ => rfl)) (pe_ix ix_seq (pv 1) (pv 2) (fun _ _ => rfl))))) pa_nil))), ?_⟩
    refine ⟨a, _, ha, trivial, fun od => ⟨_, rfl, a, od, rfl, .inl ⟨_, upd_same, fun D nD => ?_⟩⟩⟩
    have hDa : D ≠ a := by intro e; rw [e, upd_same] at nD; cases nD
    have nD' : H D = none := by rw [upd_ne hDa] at nD; exact nD
    refine lc_out (walk_keys (d := a) (o := od) (kvs := rowK r)) (fun i Hc => Hc a = some (.frz od (.dK (rowK r))) ∧ (∀ y o', y ≠ a → H y = some o' → Hc y = some o') ∧ Hc D = some (.lst ((prods (r.take i) ns).map V.int))) ⟨by rw [upd_ne (Ne.symm hDa), upd_same], fun y o' hy ho => by rw [upd_ne (by intro e; rw [e, nD'] at ho; cases ho), upd_ne hy]; exact ho, by rw [upd_same]; rfl⟩ (fun i Hc _ h => h.1) ?_ ?_
    · rintro i x H0 Hc hi ⟨hA, hs, hD⟩ ⟨rfl, kk, v, hkv, rfl⟩
      obtain ⟨p, hp, rfl, rfl⟩ := rowK_get r i kk v hkv
      have hpm : p ∈ r := List.mem_of_getElem? hp
      have hpk : p.1 ∈ keys r := List.mem_map.2 ⟨p, hpm, rfl⟩
      have hv : valV (rowK r) (Sum.inl (p.1 : Int)) = some (V.int p.2) := by
        rw [valV_rowK, if_pos ((Halves.has_iff r p.1).2 hpk), Halves.get_of_mem r p hn hpm]
      have dg : DGet Hc a (kV (Sum.inl (p.1 : Int))) (some (V.int p.2)) := .inl ⟨_, Sum.inl (p.1 : Int), .inr ⟨od, hA⟩, rfl, hv.symm⟩
      have hlt2 : p.1 < ns.length := hk p.1 hpk
      have eat : atI (ns.map V.int) (p.1 : Int) = some (V.int ns[p.1]) := atI_nat (by rw [List.getElem?_map, List.getElem?_eq_getElem hlt2]; rfl)
      have cm := wide_mul (hz p hpm) (hy _ (List.getElem_mem hlt2)) n0 m0 hnm
      have fin : ∃ acc, Hc D = some (.lst acc) ∧ acc.length < sizeLine ∧ ((upd Hc D (.lst (acc ++ [V.int (p.2 * ns[p.1])]))) a = some (.frz od (.dK (rowK r))) ∧ (∀ y o', y ≠ a → H y = some o' → (upd Hc D (.lst (acc ++ [V.int (p.2 * ns[p.1])]))) y = some o') ∧ (upd Hc D (.lst (acc ++ [V.int (p.2 * ns[p.1])]))) D = some (.lst ((prods (r.take (i + 1)) ns).map V.int))) := by
        refine ⟨_, hD, ?_, by rw [upd_ne (Ne.symm hDa)]; exact hA, fun y o' hy' ho => by rw [upd_ne (by intro e; rw [e, nD'] at ho; cases ho)]; exact hs y o' hy' ho, ?_⟩
        · have : (r.take i).length ≤ r.length := by simp; omega
          refine small1000 ?_
          simp [prods]; omega
        · rw [upd_same, take_snoc r i p hp]
          simp [prods, List.getD, List.getElem?_eq_getElem hlt2]
      cases t
      · have hb2 : SqL K Hc b (ns.map V.int) := by
          rcases hb with (h | ⟨o', h⟩) | h
          · exact .inl (.inl (hs b _ (by intro e; rw [e, ha] at h; cases h) h))
          · exact .inl (.inr ⟨o', hs b _ (by intro e; rw [e, ha] at h; cases h) h⟩)
          · exact .inr h
        exact ⟨rfl, _, rfl, _, rfl, a, _, rfl, dg, _, rfl, _, rfl, .inl ⟨b, _, _, _, rfl, rfl, hb2, eat, _, _, rfl, rfl, cm, fin⟩⟩
      · have hb2 : SqT K Hc b (ns.map V.int) := by
          rcases hb with (h | ⟨o', h⟩) | h
          · exact .inl (.inl (hs b _ (by intro e; rw [e, ha] at h; cases h) h))
          · exact .inl (.inr ⟨o', hs b _ (by intro e; rw [e, ha] at h; cases h) h⟩)
          · exact .inr h
        exact ⟨rfl, _, rfl, _, rfl, a, _, rfl, dg, _, rfl, _, rfl, .inr (.inl ⟨b, _, _, _, rfl, rfl, hb2, eat, _, _, rfl, rfl, cm, fin⟩)⟩
    · rintro Hc ⟨hA, hs, hD⟩
      rw [rowK_length, List.take_length] at hD
      have same : Same H (upd Hc a (.dK (rowK r))) := fun y o' ho => by
        by_cases ey : y = a
        · subst ey; rw [upd_same, ← ha]; exact ho
        · rw [upd_ne ey]; exact hs y o' ey ho
      exact ⟨hA, D, prods r ns, rfl, SqL.of (by rw [upd_ne hDa]; exact hD), k _ same⟩
end
end L2.EH
end S_Q3
section S_Q4
set_option exponentiation.threshold 2000
set_option maxRecDepth 100000
set_option maxHeartbeats 4000000
namespace L2.EH
open PySem PySem.Spec PyProof.Rows StX
open L2.Halves (has keys)
theorem natCast_natAbs (n : Nat) : ((n : Int)).natAbs = n := by omega
section
variable {P : Program} {w : World} {K : PySem.W.Frag} {mg : Str → Option Value} {base : Heap}
theorem ok_sharedRow {f : Addr} {fd : FuncData} (F : Fun K "shared_row" "shared_row" sSharedRow f fd) (B : BN mg) (GL : mg "lcm" = some (.builtin "math.lcm")) : FnOk P w K mg base CX0 1 f fd ["fractions"] (spSharedRow K) := by
  refine F.ok scSharedRow (fun vs H Q E h => ?_) (fun cdv A outer s H vs Q E hr h => ?_)
  · obtain ⟨v, ps, rfl, _⟩ := h
    rfl
  · obtain ⟨v, ps, rfl, hd, hl, hsh, hb, k⟩ := h
    obtain ⟨a, xs, rfl, ha, hx⟩ := dp_tup hd
    have hlen : xs.length = ps.length := by rw [dpAll_len hx, List.length_map]
    have hu := hu_of hr
    have nd := scSharedRow.nd
    refine ⟨_, pss_cons (ps_set (i := 1) nd rfl (Or.inr rfl) pe_int)
      (pss_cons (ps_for PassesOwn.never rfl (pi_tup (pv 0)) (pg_tup rfl (pgs_cons (pg_name (i := 2) nd rfl (Or.inl rfl)) (pgs_cons (pg_name (i := 3) nd rfl (Or.inl rfl)) pgs_nil)))
        (pss_one (ps_set (i := 1) nd rfl (Or.inr rfl) (pe_callBfun cr_lcm (by rfl) GL (pa_cons (pv 1) (pa_cons (pv 3) pa_nil))))))
      (pss_one (ps_ret (pe_tup (pa_cons (pe_dc (own := [("at", 4), ("top", 5), ("bottom", 3)]) (g := gTup K 2 (gCons (gName 4) (gCons (gTup K 2 (gCons (gName 5) (gCons (gName 3) gNil))) gNil))) rfl nd (pi_enumK true (by rfl) B.enum (pa_cons (pv 0) pa_nil)) (blkOk_by (own := [("at", 4), ("top", 5), ("bottom", 3)]) (N := ["fractions", "shared", "_", "bottom", "at", "top"]) (sc := defScope sSharedRow) (by decide +kernel))
        (fun _ _ _ _ _ => pg_tup rfl (pgs_cons (pg_name (i := 4) nd rfl (Or.inl rfl) (Or.inr rfl)) (pgs_cons (pg_tup rfl (pgs_cons (pg_name (i := 5) nd rfl (Or.inl rfl) (Or.inr rfl)) (pgs_cons (pg_name (i := 3) nd rfl (Or.inl rfl) (Or.inr rfl)) pgs_nil rfl) rfl) rfl rfl) pgs_nil rfl) rfl) rfl rfl)
        (fun _ _ _ _ _ => pts_one (pt_cmpR op_ne (pv 5) pe_int (nomark _))) (fun _ _ _ _ _ => pv 4) (fun _ _ _ _ _ => pe_op op_mulW (pv 5) (pe_op op_fdivW (pv 1) (pv 3)))) (pa_cons (pv 1) pa_nil)))))), ?_⟩
    refine ⟨_, rfl, a, rfl, ⟨_, ha⟩, ?_⟩
    refine for_it (walk_tup (xs := xs)) (fun i σ Hc => Hc = H ∧ ∃ x y : Option V, σ = [some (.ref a), some (.int (shr (ps.take i) : Int)), x, y, none, none]) ⟨rfl, none, none, rfl⟩ (fun i σ Hc _ h => by rw [h.1]; exact ha) ?_ ?_
    · rintro i x σ H0 Hc hi ⟨rfl, y, z, rfl⟩ ⟨rfl, hx'⟩
      obtain ⟨d, hd1, hd2⟩ := dpAll_get' hx hx'
      rw [List.getElem?_map] at hd1
      cases e : ps[i]? with
      | none => rw [e] at hd1; cases hd1
      | some p =>
        rw [e] at hd1
        cases hd1
        obtain ⟨b, rfl, hb2⟩ := dp_pair hd2
        have hpm := List.mem_of_getElem? e
        refine ⟨b, _, rfl, hb2, rfl, _, _, rfl, _, _, rfl, rfl, ?_⟩
        refine ⟨_, rfl, _, rfl, _, _, rfl, ?_, ?_, rfl, some (.int p.1), some (.int p.2), ?_⟩
        · rw [natCast_natAbs]; exact Nat.lt_trans (hsh i) (by decide)
        · exact Nat.lt_trans (hb p hpm).2.1 (by decide)
        · rw [take_snoc' ps i p e, shr_snoc, natCast_natAbs]; rfl
    · rintro σ Hc ⟨rfl, y, z, rfl⟩
      rw [hlen, List.take_length]
      have hS : shr ps < 2 ^ 60 := by have := hsh ps.length; rwa [List.take_length] at this
      refine ⟨_, rfl, a, xs, rfl, ha, fun D nD => ?_⟩
      refine lc_out (walk_enumK (t := true) (xs := xs)) (fun i Hc' => Same Hc Hc' ∧ Hc' D = some (.dK (rowK (shRow (shr ps : Int) 0 (ps.take i))))) ⟨same_new nD, by rw [upd_same]; simp [shRow, rowK]⟩ (fun i Hc' _ h => same_tup h.1 ha) ?_ ?_
      · rintro i x H0 H1 hi ⟨hs, hD⟩ ⟨T, u1, u2, rfl, hT, rfl, e1, e2⟩
        cases e1
        obtain ⟨d, hd1, hd2⟩ := dpAll_get' hx e2
        rw [List.getElem?_map] at hd1
        cases e : ps[i]? with
        | none => rw [e] at hd1; cases hd1
        | some p =>
          rw [e] at hd1
          cases hd1
          obtain ⟨b, rfl, hb2⟩ := dp_pair hd2
          have hpm := List.mem_of_getElem? e
          have s1 := same_new (o := .tup [.int (i : Nat), .ref b]) hT
          have s2 := hs.trans s1
          have hD2 := s1 _ _ hD
          have elen : (rowK (shRow (shr ps : Int) 0 (ps.take i))).length < sizeLine := by
            rw [rowK_length]
            have h1 := shRow_len (shr ps : Int) (ps.take i) 0
            have h2 : (ps.take i).length ≤ ps.length := by rw [List.length_take]; omega
            exact small1000 (by omega)
          have hil : i < ps.length := (List.getElem?_eq_some_iff.1 e).1
          have el : (ps.take i).length = i := by rw [List.length_take]; omega
          have enew : i ∉ keys (shRow (shr ps : Int) 0 (ps.take i)) := fun h => by
            have := shRow_keys _ _ _ _ h
            omega
          refine ⟨T, _, rfl, SqT.of upd_same, rfl, _, _, rfl, _, _, rfl, ⟨b, _, rfl, same_tup s2 hb2, rfl, _, _, rfl, _, _, rfl, rfl, ?_⟩⟩
          refine ⟨rfl, rfl, _, rfl, rfl, _, rfl, ?_⟩
          rw [take_snoc' ps i p e, shRow_snoc, el, Nat.zero_add]
          by_cases hv : p.1 = 0
          · have ed : (!decide (V.int p.1 = V.int 0)) = false := by simp [hv]
            rw [ed, if_neg (by simpa using hv), List.append_nil]
            exact iteF ⟨s2, hD2⟩
          · have ed : (!decide (V.int p.1 = V.int 0)) = true := by simpa using hv
            rw [ed, if_pos hv]
            have hq := (hb p hpm)
            have hdiv : CDivW ((shr ps : Nat) : Int) p.2 := wide_div hq.1 hq.2.1 (by decide) (by decide)
            have hle : (((shr ps : Nat) : Int) / p.2).natAbs < 2 ^ 60 := Nat.lt_of_le_of_lt (Int.natAbs_ediv_le_natAbs _ _) (by rw [natCast_natAbs]; exact hS)
            refine iteT ⟨_, rfl, _, rfl, _, rfl, _, rfl, _, _, rfl, rfl, hdiv, _, _, rfl, rfl, wide_mul hq.2.2 hle (by decide) (by decide) (by decide), _, Sum.inl (i : Int), rfl, hD2, elen, ?_⟩
            rw [putK_new enew]
            exact ⟨fun c o hc => by rw [upd_ne (by intro z; rw [z, nD] at hc; cases hc)]; exact s2 c o hc, upd_same⟩
      · rintro H1 ⟨hs, hD⟩
        rw [hlen, List.take_length] at hD
        refine ⟨_, rfl, by show 2 ≤ sizeLine; decide, fun t nt => ?_⟩
        have s1 := same_new (o := .tup [.ref D, .int (shr ps : Int)]) nt
        exact k _ t D (hs.trans s1) (hs.free nt) nD upd_same (s1 _ _ hD)
end
end L2.EH
end S_Q4
section S_Q5
set_option exponentiation.threshold 2000
set_option maxRecDepth 100000
set_option maxHeartbeats 4000000
namespace L2.EH
open PySem PySem.Spec PyProof.Rows StX
open L2.Halves (has keys)
/-! ### plain rules as they are kept -/
structure PlainC (K : PySem.W.Frag) (C : Addr) : Prop where
  cl : Cls K C
  nh : NoAttr K C "halves"
  ns : NoAttr K C "starts"
  na : NoAttr K C "answer"
/-- a class that is made by its __init__ -/
structure Made (P : Program) (w : World) (K : PySem.W.Frag) (mg : Str → Option Value) (base : Heap) (k : Nat) (x : Str) (C f : Addr) (fd : FuncData) (ps : List Str) (sp : Sp) : Prop where
  M : Mk K C f
  ok : FnOk P w K mg base CX0 k f fd ps sp
  m : mg x = some (.ref C)
  b : Binds K fd ps []
def ruleF (h s t : Addr) : List (Str × V) := putF "answer" (.ref t) (putF "starts" (.ref s) (putF "halves" (.ref h) []))
theorem ruleF_h (h s t : Addr) : (ruleF h s t).lookup ("halves" : Str) = some (V.ref h) := by
  unfold ruleF
  rw [lookup_putF, if_neg (by decide +kernel), lookup_putF, if_neg (by decide +kernel), lookup_putF, if_pos rfl]
theorem ruleF_s (h s t : Addr) : (ruleF h s t).lookup ("starts" : Str) = some (V.ref s) := by
  unfold ruleF
  rw [lookup_putF, if_neg (by decide +kernel), lookup_putF, if_pos rfl]
theorem ruleF_a (h s t : Addr) : (ruleF h s t).lookup ("answer" : Str) = some (V.ref t) := by
  unfold ruleF
  rw [lookup_putF, if_pos rfl]
theorem ruleF_len (h s t : Addr) : (ruleF h s t).length < 1000 := by
  have h1 := length_putF "halves" (V.ref h) []
  have h2 := length_putF "starts" (V.ref s) (putF "halves" (V.ref h) [])
  have h3 := length_putF "answer" (V.ref t) (putF "starts" (V.ref s) (putF "halves" (V.ref h) []))
  unfold ruleF
  simp only [List.length_nil] at h1
  omega
/-- a shared row -/
def ShrAt (K : PySem.W.Frag) (H : Hp) (v : V) (ps : List (Int × Int)) : Prop := ∃ t d : Addr, v = .ref t ∧ SqT K H t [.ref d, .int (shr ps : Int)] ∧ H d = some (.dK (rowK (shRow (shr ps : Int) 0 ps)))
theorem ShrAt.same {K : PySem.W.Frag} {H H' : Hp} {v : V} {ps : List (Int × Int)} (s : Same H H') (h : ShrAt K H v ps) : ShrAt K H' v ps := by
  obtain ⟨t, d, e, h1, h2⟩ := h
  exact ⟨t, d, e, same_tup s h1, s _ _ h2⟩
def ShrsAt (K : PySem.W.Frag) (H : Hp) (a : Addr) (M : List (List (Int × Int))) : Prop := ∃ xs : List V, SqL K H a xs ∧ xs.length = M.length ∧ ∀ (i : Nat) (x : V) (r : List (Int × Int)), xs[i]? = some x → M[i]? = some r → ShrAt K H x r
theorem ShrsAt.same {K : PySem.W.Frag} {H H' : Hp} {a : Addr} {M : List (List (Int × Int))} (s : Same H H') (h : ShrsAt K H a M) : ShrsAt K H' a M := by
  obtain ⟨xs, h1, h2, h3⟩ := h
  exact ⟨xs, s.seq h1, h2, fun i x r e1 e2 => (h3 i x r e1 e2).same s⟩
structure Plain where
  even : List (List (Int × Int))
  odd : List (List (Int × Int))
  firsts : List Int
  told : List (Int × Int)
def plainD (R : Plain) : PyData := .tuple [matD R.even, matD R.odd, rowD R.firsts, prowD R.told]
theorem matD_tup (M : List (List (Int × Int))) : tupOnly (matD M) = true := tupsOnly_map prowD prowD_tup M
theorem plainD_tup (R : Plain) : tupOnly (plainD R) = true := by
  show tupsOnly _ = true
  simp [tupsOnly, matD_tup, rowD_tup, prowD_tup]
structure RuleAt (K : PySem.W.Frag) (C : Addr) (H : Hp) (a : Addr) (R : Plain) : Prop where
  ex : ∃ dx h s t e o, H a = some (.ins C dx (ruleF h s t)) ∧ SqT K H h [.ref e, .ref o] ∧ ShrsAt K H e R.even ∧ ShrsAt K H o R.odd ∧ SqT K H s (R.firsts.map V.int) ∧ ShrAt K H (.ref t) R.told
theorem RuleAt.same {K : PySem.W.Frag} {C : Addr} {H H' : Hp} {a : Addr} {R : Plain} (q : Same H H') (h : RuleAt K C H a R) : RuleAt K C H' a R := by
  obtain ⟨dx, h, s, t, e, o, h1, h2, h3, h4, h5, h6⟩ := h.ex
  exact ⟨dx, h, s, t, e, o, q _ _ h1, same_tup q h2, h3.same q, h4.same q, same_tup q h5, h6.same q⟩
def spRuleInit (C : Addr) : Sp := fun vs H Q _ => ∃ (p dx h s t : Addr), vs = [.ref p, .ref h, .ref s, .ref t] ∧ H p = some (.ins C dx []) ∧
  ∀ (H' : Hp), H' p = some (.ins C dx (ruleF h s t)) → (∀ b q, H b = some q → b ≠ p → H' b = some q) → Q .non H'
theorem scRuleInit : FnScope ["self", "halves", "starts", "answer"] ["self", "halves", "starts", "answer"] (defScope sRuleInit) := ⟨rfl, rfl, rfl, by decide +kernel, rfl, by decide +kernel, by decide +kernel⟩
/-! ### which things are plain rules -/
def fitsB (M : List (List (Int × Int))) (fs : List Int) : Bool := (List.zip M fs).all fun p => decide (rowTimes (shRow (shr p.1 : Int) 0 p.1) fs = p.2 * (shr p.1 : Int))
def Plain.ok (R : Plain) : Bool := decide (R.even.length ≤ 100) && (squareOk (R.even.length : Int) R.even && (squareOk (R.even.length : Int) R.odd && (decide (R.firsts.length = R.even.length) && (frowOk (R.even.length : Int) R.told && fitsB R.even R.firsts))))
/-- bounds of a row: its bottoms, what they share, its tops -/
def RowB (ps : List (Int × Int)) : Prop := ps.length ≤ 900 ∧ (∀ i, shr (ps.take i) < 2 ^ 60) ∧ ∀ p, p ∈ ps → p.2.natAbs < 2 ^ 60 ∧ p.1.natAbs < 2 ^ 1000
structure PlainB (R : Plain) : Prop where
  el : R.even.length ≤ 900
  ol : R.odd.length ≤ 900
  fl : R.firsts.length ≤ 900
  e : ∀ r, r ∈ R.even → RowB r
  o : ∀ r, r ∈ R.odd → RowB r
  t : RowB R.told
  f : ∀ z, z ∈ R.firsts → z.natAbs < 2 ^ 1000
def spPlainIn (K : PySem.W.Frag) (C : Addr) : Sp := fun vs H Q _ => ∃ (v : V) (R : Plain), vs = [v] ∧ Dp K H v (plainD R) ∧ PlainB R ∧ (R.ok = true → ∀ H' p, Same H H' → H p = none → RuleAt K C H' p R → Q (.ref p) H') ∧ (R.ok = false → ∀ H', Same H H' → Q .non H')
theorem scPlainIn : FnScope ["value", "even", "odd", "firsts", "told", "many", "first", "evens", "tops", "bottom", "row"] ["value"] (defScope sPlainIn) := ⟨rfl, rfl, rfl, by decide +kernel, rfl, by decide +kernel, by decide +kernel⟩
theorem frac_pos {ps : List (Int × Int)} {n : Int} (h : frowOk n ps = true) : ∀ p, p ∈ ps → 0 < p.2 := fun p hp => by
  unfold frowOk at h
  have h2 := List.all_eq_true.mp (Bool.and_eq_true_iff.mp h).2 p hp
  unfold fracOk at h2
  have := of_decide_eq_true (Bool.and_eq_true_iff.mp h2).1
  omega
section
variable {P : Program} {w : World} {K : PySem.W.Frag} {mg : Str → Option Value} {base : Heap}
theorem ok_ruleInit {C f : Addr} {fd : FuncData} (F : Fun K "__init__" "PlainRule.__init__" sRuleInit f fd) (T : PlainC K C) : FnOk P w K mg base CX0 1 f fd ["self", "halves", "starts", "answer"] (spRuleInit C) := by
  refine F.ok scRuleInit (fun vs H Q E h => ?_) (fun cdv A outer s H vs Q E hr h => ?_)
  · obtain ⟨p, dx, h, s, t, rfl, _⟩ := h
    rfl
  · obtain ⟨p, dx, h, st, t, rfl, hp, k⟩ := h
    refine ⟨_, pss_cons (ps_fld (pv 0) (pv 1) rfl) (pss_cons (ps_fld (pv 0) (pv 2) rfl) (pss_one (ps_fld (pv 0) (pv 3) rfl))), ?_⟩
    have l1 := length_putF "halves" (V.ref h) []
    have l2 := length_putF "starts" (V.ref st) (putF "halves" (V.ref h) [])
    simp only [List.length_nil] at l1
    refine ⟨_, rfl, _, rfl, p, C, dx, [], rfl, hp, T.cl, T.nh, (by show 0 < 1000; decide), ?_⟩
    refine ⟨_, rfl, _, rfl, p, C, dx, _, rfl, upd_same, T.cl, T.ns, (by omega), ?_⟩
    refine ⟨_, rfl, _, rfl, p, C, dx, _, rfl, upd_same, T.cl, T.na, (by omega), ?_⟩
    refine k _ upd_same fun b q hb hbp => ?_
    rw [upd_ne hbp, upd_ne hbp, upd_ne hbp]; exact hb
end
end L2.EH
end S_Q5
section S_Q6
set_option exponentiation.threshold 2000
set_option maxRecDepth 100000
set_option maxHeartbeats 4000000
namespace L2.EH
open PySem PySem.Spec PyProof.Rows StX
open L2.Halves (has keys)
theorem shRow_get (S : Int) : ∀ (ps : List (Int × Int)) (i : Nat) (q : Nat × Int), q ∈ shRow S i ps → ∃ j p, ps[j]? = some p ∧ q = (i + j, p.1 * (S / p.2))
  | [], i, q, h => by simp [shRow] at h
  | p :: ps, i, q, h => by
    simp only [shRow] at h
    have go : q ∈ shRow S (i + 1) ps → ∃ j p', (p :: ps)[j]? = some p' ∧ q = (i + j, p'.1 * (S / p'.2)) := fun h => by
      obtain ⟨j, p', e1, e2⟩ := shRow_get S ps (i + 1) q h
      exact ⟨j + 1, p', by simpa using e1, by rw [e2]; simp; omega⟩
    split at h
    · rcases List.mem_cons.1 h with e | e
      · exact ⟨0, p, rfl, by rw [e]; simp⟩
      · exact go e
    · exact go h
theorem shRow_small {ps : List (Int × Int)} (h : RowB ps) : ∀ q, q ∈ shRow (shr ps : Int) 0 ps → q.2.natAbs < 2 ^ 1060 := fun q hq => by
  obtain ⟨j, p, e1, e2⟩ := shRow_get _ _ _ _ hq
  rw [e2]
  have hp := h.2.2 p (List.mem_of_getElem? e1)
  have hS : shr ps < 2 ^ 60 := by have := h.2.1 ps.length; rwa [List.take_length] at this
  have := wide_lt hp.2 (Nat.lt_of_le_of_lt (Int.natAbs_ediv_le_natAbs ((shr ps : Nat) : Int) p.2) (by rw [natCast_natAbs]; exact hS))
  exact this
theorem SqL.same {K : PySem.W.Frag} {H H' : Hp} {a : Addr} {xs : List V} (h : SqL K H a xs) (s : Same H H') : SqL K H' a xs := s.seq h
theorem iteF' {c : Bool} {A B : Prop} (e : c = false) (h : B) : if c = true then A else B := by
  subst e; exact iteF h
theorem iteT' {c : Bool} {A B : Prop} (e : c = true) (h : A) : if c = true then A else B := by
  subst e; exact iteT h
section
variable {P : Program} {w : World} {K : PySem.W.Frag} {mg : Str → Option Value} {base : Heap}
theorem ok_plainIn {C f fW fR fF fS fH fT fI : Addr} {fd fdW fdR fdF fdS fdH fdT fdI : FuncData} {tP : Tok} (F : Fun K "plain_in" "plain_in" sPlainIn f fd) (B : BN mg) (hP : mg "PLAIN_LINES" = some (.int 100 tP))
    (FW : Fn' P w K mg base 1 "is_whole" fW fdW ["value"] spIsWhole) (FR : Fn' P w K mg base 1 "is_row_of" fR fdR ["value", "many"] (spIsRowOf K)) (FF : Fn' P w K mg base 3 "is_fraction_row" fF fdF ["value", "many"] (spIsFractionRow K))
    (FS : Fn' P w K mg base 4 "is_square" fS fdS ["value", "many"] (spIsSquare K)) (FH : Fn' P w K mg base 1 "shared_row" fH fdH ["fractions"] (spSharedRow K)) (FT : Fn' P w K mg base 1 "row_times" fT fdT ["tops", "values"] (spRowTimes K))
    (M : Made P w K mg base 1 "PlainRule" C fI fdI ["self", "halves", "starts", "answer"] (spRuleInit C)) : FnOk P w K mg base CX0 5 f fd ["value"] (spPlainIn K C) := by
  refine F.ok scPlainIn (fun vs H Q E h => ?_) (fun cdv A outer s H vs Q E hr h => ?_)
  · obtain ⟨v, R, rfl, _⟩ := h
    rfl
  · obtain ⟨v, R, rfl, hd, hB, k1, k0⟩ := h
    obtain ⟨a, xs, rfl, ha, hx⟩ := dp_tup hd
    obtain ⟨v1, v2, v3, v4, rfl, d1, d2, d3, d4⟩ : ∃ v1 v2 v3 v4, xs = [v1, v2, v3, v4] ∧ Dp K H v1 (matD R.even) ∧ Dp K H v2 (matD R.odd) ∧ Dp K H v3 (rowD R.firsts) ∧ Dp K H v4 (prowD R.told) := by
      cases hx with
      | cons h1 r => cases r with
        | cons h2 r => cases r with
          | cons h3 r => cases r with
            | cons h4 r => cases r with
              | nil => exact ⟨_, _, _, _, rfl, h1, h2, h3, h4⟩
    obtain ⟨a1, xs1, rfl, ha1, hx1⟩ := dp_tup d1
    obtain ⟨a3, rfl, ha3⟩ := dp_row d3
    obtain ⟨a2, xs2, rfl, ha2, hx2⟩ := dp_tup d2
    have hlen2 : xs2.length = R.odd.length := by rw [dpAll_len hx2, List.length_map]
    have hlen1 : xs1.length = R.even.length := by rw [dpAll_len hx1, List.length_map]
    have nd := scPlainIn.nd
    refine ⟨_, pss_cons (ps_if (pt_not (pt_val (pe_call FR.ok (by exact hr.mono (by decide)) (by rfl) FR.m FR.k FR.b .nil pass0 (pa_cons (pv 0) (pa_cons pe_int pa_nil))))) (pss_one (ps_ret pe_non)) pss_nil)
      (pss_cons (ps_asg (pv 0) (pg_tup rfl (pgs_cons (pg_name (i := 1) nd rfl (Or.inl rfl)) (pgs_cons (pg_name (i := 2) nd rfl (Or.inl rfl)) (pgs_cons (pg_name (i := 3) nd rfl (Or.inl rfl)) (pgs_cons (pg_name (i := 4) nd rfl (Or.inl rfl)) pgs_nil))))))
      (pss_cons (ps_if (PW.pt (pw_or (pt_not (pt_val (pe_callB call_isi (by rfl) B.isinst (by decide +kernel) (pa_cons (pv 1) (pa_cons (pe_bltn (v := .ty "tuple") (by rfl) B.tuple (by decide +kernel) rfl) pa_nil)))))
          (pw_or1 (pt_cmpR op_gt (pe_callB call_len (by rfl) B.len boot_len (pa_cons (pv 1) pa_nil)) (pe_glob (v := .int 100) rfl hP ⟨_, rfl⟩) (nomark _))))) (pss_one (ps_ret pe_non)) pss_nil)
      (pss_cons (ps_set (i := 5) nd rfl (Or.inl rfl) (pe_callB call_len (by rfl) B.len boot_len (pa_cons (pv 1) pa_nil)))
      (pss_cons (ps_if (PW.pt (pw_or (pt_not (pt_val (pe_call FS.ok (by exact hr.mono (by decide)) (by rfl) FS.m FS.k FS.b .nil pass0 (pa_cons (pv 1) (pa_cons (pv 5) pa_nil)))))
          (pw_or1 (pt_not (pt_val (pe_call FS.ok (by exact hr.mono (by decide)) (by rfl) FS.m FS.k FS.b .nil pass0 (pa_cons (pv 2) (pa_cons (pv 5) pa_nil)))))))) (pss_one (ps_ret pe_non)) pss_nil)
      (pss_cons (ps_if (PW.pt (pw_or (pt_not (pt_val (pe_call FR.ok (by exact hr.mono (by decide)) (by rfl) FR.m FR.k FR.b .nil pass0 (pa_cons (pv 3) (pa_cons (pv 5) pa_nil)))))
          (pw_or (pt_not (pt_val (pe_callB (cr_all rfl) (by rfl) B.all (by decide +kernel) (pa_cons (pe_lc (own := [("first", 6)]) (g := gName 6) (tt := tYes) rfl nd (pi_tup (pv 3)) (blkOk_by (own := [("first", 6)]) (N := ["value", "even", "odd", "firsts", "told", "many", "first", "evens", "tops", "bottom", "row"]) (sc := defScope sPlainIn) (by decide +kernel)) (fun _ _ _ _ _ => pg_name (i := 6) nd rfl (Or.inl rfl) (Or.inr rfl)) (fun _ _ _ _ _ => pts_nil)
            (fun _ _ _ _ _ => pe_call FW.ok (by exact hr.mono (by decide)) (by rfl) FW.m FW.k FW.b .nil pass0 (pa_cons (pv 6) pa_nil))) pa_nil))))
          (pw_or1 (pt_not (pt_val (pe_call FF.ok (by exact hr.mono (by decide)) (by rfl) FF.m FF.k FF.b .nil pass0 (pa_cons (pv 4) (pa_cons (pv 5) pa_nil))))))))) (pss_one (ps_ret pe_non)) pss_nil)
      (pss_cons (ps_setLc (i := 7) (own := [("row", 10)]) (g := gName 10) (tt := tYes) (by rfl) nd rfl rfl (sw_true rfl rfl rfl (by decide +kernel)) (pi_tup (pv 1)) (blkOk_by (own := [("row", 10)]) (N := ["value", "even", "odd", "firsts", "told", "many", "first", "evens", "tops", "bottom", "row"]) (sc := defScope sPlainIn) (by decide +kernel)) (fun _ _ _ _ _ => pg_name (i := 10) nd rfl (Or.inl rfl) (Or.inr rfl)) (fun _ _ _ _ _ => pts_nil)
          (fun _ _ _ _ _ => pe_call FH.ok (by exact hr.mono (by decide)) (by rfl) FH.m FH.k FH.b .nil pass0 (pa_cons (pv 10) pa_nil)))
      (pss_cons (ps_for PassesOwn.never rfl (pi_zipK false true (by rfl) B.zip (pa_cons (pv 7) (pa_cons (pv 3) pa_nil))) (pg_tup rfl (pgs_cons (pg_tup rfl (pgs_cons (pg_name (i := 8) nd rfl (Or.inl rfl)) (pgs_cons (pg_name (i := 9) nd rfl (Or.inl rfl)) pgs_nil))) (pgs_cons (pg_name (i := 6) nd rfl (Or.inl rfl)) pgs_nil)))
          (pss_one (ps_if (pt_cmpR op_ne (pe_call FT.ok (by exact hr.mono (by decide)) (by rfl) FT.m FT.k FT.b .nil pass0 (pa_cons (pv 8) (pa_cons (pv 3) pa_nil))) (pe_op op_mulW (pv 6) (pv 9)) (nomark _)) (pss_one (ps_ret pe_non)) pss_nil)))
      (pss_one (ps_ret (pe_make M.M M.ok (by exact hr.mono (by decide)) (by rfl) M.m M.b .nil pass0 (pa_cons (pe_tup (pa_cons (pv 7) (pa_cons (pe_lc (own := [("row", 10)]) (g := gName 10) (tt := tYes) rfl nd (pi_tup (pv 2)) (blkOk_by (own := [("row", 10)]) (N := ["value", "even", "odd", "firsts", "told", "many", "first", "evens", "tops", "bottom", "row"]) (sc := defScope sPlainIn) (by decide +kernel)) (fun _ _ _ _ _ => pg_name (i := 10) nd rfl (Or.inl rfl) (Or.inr rfl)) (fun _ _ _ _ _ => pts_nil)
          (fun _ _ _ _ _ => pe_call FH.ok (by exact hr.mono (by decide)) (by rfl) FH.m FH.k FH.b .nil pass0 (pa_cons (pv 10) pa_nil))) pa_nil))) (pa_cons (pv 3) (pa_cons (pe_call FH.ok (by exact hr.mono (by decide)) (by rfl) FH.m FH.k FH.b .nil pass0 (pa_cons (pv 4) pa_nil)) pa_nil))))))))))))), ?_⟩
    have no : ∀ {Hc : Hp}, Same H Hc → R.ok = false → Q .non Hc := fun sH e => k0 e _ sH
    refine ⟨_, rfl, a, _, 4, rfl, ha, _, rfl, iteF ?_⟩
    refine ⟨_, rfl, a, _, rfl, ha, rfl, _, _, rfl, _, _, rfl, _, _, rfl, _, _, rfl, rfl, ?_⟩
    refine ⟨_, rfl, _, _, .type "tuple", .type "tuple", true, rfl, .ty _, sqT_ty ha1, kit_ty (by decide +kernel), _, rfl, iteF ?_⟩
    refine ⟨_, rfl, _, _, rfl, .inr ⟨_, ha1, rfl⟩, _, _, rfl, rfl, _, rfl, ?_⟩
    rw [hlen1]
    refine ite2 (fun h1 => ?_) fun h1 => ?_
    · exact no (Same.refl H) (by
        have : ¬ R.even.length ≤ 100 := by have := of_decide_eq_true h1; omega
        simp [Plain.ok, this])
    have c1 : R.even.length ≤ 100 := by
      have : ¬ (100 : Int) < (R.even.length : Int) := fun z => h1 (decide_eq_true z)
      omega
    refine ⟨_, rfl, _, _, rfl, .inr ⟨_, ha1, rfl⟩, ?_⟩
    rw [hlen1]
    refine ⟨_, rfl, _, rfl, .ref a1, R.even, (R.even.length : Int), rfl, d1, by omega, fun r hr => Nat.le_trans (hB.e r hr).1 (by decide), fun H1 s1 => ⟨_, rfl, ?_⟩⟩
    by_cases c2 : squareOk (R.even.length : Int) R.even = true
    case neg =>
      rw [Bool.not_eq_true] at c2
      rw [c2]
      exact iteT (no s1 (by simp [Plain.ok, c2]))
    rw [c2]
    refine iteF ⟨_, rfl, _, rfl, .ref a2, R.odd, (R.even.length : Int), rfl, dp_same s1 d2, Nat.le_trans hB.ol (by decide), fun r hr => Nat.le_trans (hB.o r hr).1 (by decide), fun H2 s2 => ⟨_, rfl, ?_⟩⟩
    by_cases c3 : squareOk (R.even.length : Int) R.odd = true
    case neg =>
      rw [Bool.not_eq_true] at c3
      rw [c3]
      exact iteT (no (s1.trans s2) (by simp [Plain.ok, c3]))
    rw [c3]
    have s02 := s1.trans s2
    have ha3' := same_tup s02 ha3
    refine iteF ⟨_, rfl, _, rfl, a3, _, (R.even.length : Int), rfl, ha3', _, rfl, ?_⟩
    rw [List.length_map]
    by_cases c4 : R.firsts.length = R.even.length
    case neg =>
      rw [decide_eq_false (by omega)]
      exact iteT (no s02 (by simp [Plain.ok, c4]))
    rw [decide_eq_true (by omega)]
    refine iteF ⟨_, rfl, a3, rfl, ⟨_, ha3'⟩, fun D nD => ?_⟩
    refine lc_out (walk_tup (xs := R.firsts.map V.int)) (fun i Hc => Grow H2 D ((List.replicate i true).map V.bl) Hc) (Grow.start nD) (fun i Hc _ g => same_tup g.s ha3') ?_ ?_
    · rintro i x H0 Hc hi g ⟨rfl, hx'⟩
      rw [List.getElem?_map] at hx'
      cases e : R.firsts[i]? with
      | none => rw [e] at hx'; cases hx'
      | some z =>
        rw [e] at hx'
        cases hx'
        rw [List.length_map] at hi
        refine ⟨rfl, _, rfl, z, rfl, _, g.d, by rw [List.length_map, List.length_replicate]; exact small1000 (by have := hB.fl; omega), ?_⟩
        have := g.step nD (V.bl true)
        rw [show ((List.replicate (i + 1) true).map V.bl) = (List.replicate i true).map V.bl ++ [V.bl true] by rw [List.replicate_succ', List.map_append]; rfl]
        exact this
    intro H3 g3
    refine ⟨D, _, rfl, SqL.of g3.d, _, rfl, ?_⟩
    rw [show (List.replicate (R.firsts.map V.int).length true).all id = true by simp]
    have s03 := s02.trans g3.s
    refine iteF ⟨_, rfl, _, rfl, v4, R.told, (R.even.length : Int), rfl, dp_same s03 d4, Nat.le_trans hB.t.1 (by decide), fun H4 s4 => ⟨_, rfl, ?_⟩⟩
    by_cases c5 : frowOk (R.even.length : Int) R.told = true
    case neg =>
      rw [Bool.not_eq_true] at c5
      rw [c5]
      exact iteT (no (s03.trans s4) (by simp [Plain.ok, c5]))
    rw [c5]
    have s04 := s03.trans s4
    have pe : ∀ r, r ∈ R.even → ∀ p, p ∈ r → 0 < p.2 := fun r hr => frac_pos (List.all_eq_true.mp (Bool.and_eq_true_iff.mp c2).2 r hr)
    have po : ∀ r, r ∈ R.odd → ∀ p, p ∈ r → 0 < p.2 := fun r hr => frac_pos (List.all_eq_true.mp (Bool.and_eq_true_iff.mp c3).2 r hr)
    have pt : ∀ p, p ∈ R.told → 0 < p.2 := frac_pos c5
    have ha1' := same_tup s04 ha1
    refine iteF ⟨_, rfl, a1, rfl, ⟨_, ha1'⟩, fun E1 nE => ?_⟩
    -- shared rows, one by one
    have rows : ∀ {Hb : Hp} {zs : List V} {M : List (List (Int × Int))} {D : Addr}, Hb D = none → DpAll K Hb zs (M.map prowD) → (∀ r, r ∈ M → RowB r) → (∀ r, r ∈ M → ∀ p, p ∈ r → 0 < p.2) → M.length ≤ 900 →
        ∀ (i : Nat) (x : V) (Hc : Hp) (acc : List V), i < zs.length → zs[i]? = some x → Grow Hb D acc Hc → acc.length = i → (∀ (j : Nat) (y : V) (r : List (Int × Int)), acc[j]? = some y → M[j]? = some r → ShrAt K Hc y r) →
        ∀ (N : Hp → Prop), (∀ H' acc', Grow Hb D acc' H' → acc'.length = i + 1 → (∀ (j : Nat) (y : V) (r : List (Int × Int)), acc'[j]? = some y → M[j]? = some r → ShrAt K H' y r) → N H') →
        spSharedRow K [x] Hc (fun y H4 => ∃ acc, H4 D = some (.lst acc) ∧ acc.length < sizeLine ∧ N (upd H4 D (.lst (acc ++ [y])))) E0 := by
      intro Hb zs M D nD hz hM hp hml i x Hc acc hi hx' g hacc hsh N hN
      obtain ⟨d, hd1, hd2⟩ := dpAll_get' hz hx'
      rw [List.getElem?_map] at hd1
      cases e : M[i]? with
      | none => rw [e] at hd1; cases hd1
      | some r =>
        rw [e] at hd1
        cases hd1
        have hrm := List.mem_of_getElem? e
        have hRB := hM r hrm
        refine ⟨x, r, rfl, dp_same g.s hd2, hRB.1, hRB.2.1, fun p hpp => ⟨hp r hrm p hpp, hRB.2.2 p hpp⟩, fun H' t d sH nt ndd ht hdd => ?_⟩
        have gd := sH _ _ g.d
        have il : i < M.length := (List.getElem?_eq_some_iff.1 e).1
        refine ⟨acc, gd, small1000 (by omega), hN _ (acc ++ [.ref t]) ((g.same sH).step nD _) (by simp [hacc]) ?_⟩
        have keep : ∀ {y : V} {q : List (Int × Int)}, ShrAt K H' y q → ShrAt K (upd H' D (.lst (acc ++ [.ref t]))) y q := fun {y q} ⟨t', d', e', h1, h2⟩ => by
          refine ⟨t', d', e', tup_keepT (keepT_upd gd rfl) h1, ?_⟩
          rw [upd_ne (by intro z; rw [z, gd] at h2; cases h2)]; exact h2
        intro j y q hy hq
        by_cases hj : j < i
        · rw [List.getElem?_append_left (by omega)] at hy
          exact keep ((hsh j y q hy hq).same sH)
        · have hj2 : j = i := by
            have := (List.getElem?_eq_some_iff.1 hy).1
            simp at this; omega
          subst hj2
          rw [List.getElem?_append_right (by omega), hacc, Nat.sub_self] at hy
          cases hy
          rw [e] at hq
          cases hq
          exact keep ⟨t, d, rfl, SqT.of ht, hdd⟩
    have hx1' := dpAll_same s04 hx1
    refine lc_out (walk_tup (xs := xs1)) (fun i Hc => ∃ acc, Grow H4 E1 acc Hc ∧ acc.length = i ∧ ∀ (j : Nat) (y : V) (r : List (Int × Int)), acc[j]? = some y → R.even[j]? = some r → ShrAt K Hc y r) ⟨[], Grow.start nE, rfl, fun j y r h _ => by simp at h⟩ (fun i Hc _ ⟨acc, g, _⟩ => same_tup g.s ha1') ?_ ?_
    · rintro i x H0 Hc hi ⟨acc, g, hacc, hsh⟩ ⟨rfl, hx'⟩
      refine ⟨rfl, _, rfl, ?_⟩
      exact rows nE hx1' hB.e pe hB.el i x _ acc hi hx' g hacc hsh (fun Hc => ∃ acc, Grow H4 E1 acc Hc ∧ acc.length = i + 1 ∧ ∀ (j : Nat) (y : V) (r : List (Int × Int)), acc[j]? = some y → R.even[j]? = some r → ShrAt K Hc y r) fun H' acc' g' h1 h2 => ⟨acc', g', h1, h2⟩
    rintro H5 ⟨accE, g5, hE1, hE2⟩
    rw [hlen1] at hE1
    have s05 := s04.trans g5.s
    have ha3'' := same_tup s05 ha3
    -- the fit
    refine ⟨_, rfl, _, rfl, E1, a3, accE, R.firsts.map V.int, rfl, SqL.of g5.d, ha3'', ?_⟩
    have hmin : R.even.length = min accE.length (R.firsts.map V.int).length := by rw [hE1, List.length_map, c4]; simp
    have zipat : ∀ (i : Nat) r z, R.even[i]? = some r → R.firsts[i]? = some z → (List.zip R.even R.firsts)[i]? = some (r, z) := fun i r z h1 h2 => by
      rw [List.getElem?_zip_eq_some]; exact ⟨h1, h2⟩
    refine for_it (walk_zipK (t := false) (u := true) hmin) (fun i σ Hc => Same H5 Hc ∧ ((List.zip R.even R.firsts).take i).all (fun p => decide (rowTimes (shRow (shr p.1 : Int) 0 p.1) R.firsts = p.2 * (shr p.1 : Int))) = true ∧
      ∃ x y z : Option V, σ = [some (.ref a), some (.ref a1), some (.ref a2), some (.ref a3), some v4, some (.int (R.even.length : Int)), x, some (.ref E1), y, z, none]) ⟨Same.refl _, by simp, none, none, none, rfl⟩ (fun i σ Hc _ h => ⟨SqL.same (SqL.of g5.d) h.1, same_tup h.1 ha3''⟩) ?_ ?_
    · rintro i v0 σ H0 Hc hi ⟨s6, hall, x, y, z, rfl⟩ ⟨T, u1, u2, rfl, hT, rfl, e1, e2⟩
      replace e2 : (R.firsts.map V.int)[i]? = some u2 := e2
      rw [List.getElem?_map] at e2
      cases ef : R.firsts[i]? with
      | none => rw [ef] at e2; cases e2
      | some fz =>
        rw [ef] at e2
        cases e2
        have hie : i < R.even.length := hi
        have er : R.even[i]? = some R.even[i] := List.getElem?_eq_getElem hie
        obtain ⟨t, d, rfl, ht, hdd⟩ := hE2 i u1 _ e1 er
        have sT := same_new (o := .tup [V.ref t, V.int fz]) hT
        have s57 := s6.trans sT
        refine ⟨T, _, rfl, SqT.of upd_same, rfl, _, _, rfl, ⟨t, _, rfl, same_tup s57 ht, rfl, _, _, rfl, _, _, rfl, rfl, ?_⟩⟩
        have hrm := List.mem_of_getElem? er
        have hRB := hB.e _ hrm
        have hS : shr R.even[i] < 2 ^ 60 := by have := hRB.2.1 R.even[i].length; rwa [List.take_length] at this
        have hwid : R.even[i].length = R.even.length := by
          have := List.all_eq_true.mp (Bool.and_eq_true_iff.mp c2).2 _ hrm
          have := of_decide_eq_true (Bool.and_eq_true_iff.mp this).1
          omega
        refine ⟨_, _, rfl, rfl, _, rfl, _, rfl, d, a3, true, _, R.firsts, 1060, 1000, rfl, s57 _ _ hdd, same_tup s57 ha3'', shRow_nodup _ _ _, fun q hq => ?_, ?_, shRow_small hRB, hB.f, by decide, by decide, by decide, fun H8 s8 => ?_⟩
        · have := shRow_keys _ _ _ _ hq
          omega
        · have := shRow_len (shr R.even[i] : Int) R.even[i] 0
          have := hRB.1
          omega
        refine ⟨_, rfl, _, rfl, _, _, rfl, rfl, wide_mul (a := 1000) (b := 60) (hB.f fz (List.mem_of_getElem? ef)) (by rw [natCast_natAbs]; exact hS) (by decide) (by decide) (by decide), rfl, _, rfl, ?_⟩
        have tk : (List.zip R.even R.firsts).take (i + 1) = (List.zip R.even R.firsts).take i ++ [(R.even[i], fz)] := take_snoc' _ _ _ (zipat i _ _ er ef)
        by_cases hq : rowTimes (shRow (shr R.even[i] : Int) 0 R.even[i]) R.firsts = fz * (shr R.even[i] : Int)
        · rw [hq]
          refine iteF' (by simp) ⟨s57.trans s8, ?_, _, _, _, rfl⟩
          rw [tk, List.all_append, hall]
          simp [hq]
        · refine iteT' (by simpa using hq) (no (s05.trans (s57.trans s8)) ?_)
          have hf : fitsB R.even R.firsts = false := by
            rw [Bool.eq_false_iff]
            intro hf
            unfold fitsB at hf
            have := List.all_eq_true.mp hf _ (List.mem_of_getElem? (zipat i _ _ er ef))
            exact hq (of_decide_eq_true this)
          simp [Plain.ok, hf]
    rintro σ H6 ⟨s6, hall, x, y, z, rfl⟩
    have c6 : fitsB R.even R.firsts = true := by
      unfold fitsB
      rw [List.take_of_length_le (by simp; omega)] at hall
      exact hall
    have okR : R.ok = true := by
      simp [Plain.ok, c1, c2, c3, c4, c5, c6]
    have s06 := s05.trans s6
    have ha2' := same_tup s06 ha2
    refine ⟨_, rfl, _, rfl, a2, rfl, ⟨_, ha2'⟩, fun O1 nO => ?_⟩
    refine lc_out (walk_tup (xs := xs2)) (fun i Hc => ∃ acc, Grow H6 O1 acc Hc ∧ acc.length = i ∧ ∀ (j : Nat) (y : V) (r : List (Int × Int)), acc[j]? = some y → R.odd[j]? = some r → ShrAt K Hc y r) ⟨[], Grow.start nO, rfl, fun j y r h _ => by simp at h⟩ (fun i Hc _ ⟨acc, g, _⟩ => same_tup g.s ha2') ?_ ?_
    · rintro i x H0 Hc hi ⟨acc, g, hacc, hsh⟩ ⟨rfl, hx'⟩
      refine ⟨rfl, _, rfl, ?_⟩
      exact rows nO (dpAll_same s06 hx2) hB.o po hB.ol i x _ acc hi hx' g hacc hsh (fun Hc => ∃ acc, Grow H6 O1 acc Hc ∧ acc.length = i + 1 ∧ ∀ (j : Nat) (y : V) (r : List (Int × Int)), acc[j]? = some y → R.odd[j]? = some r → ShrAt K Hc y r) fun H' acc' g' h1 h2 => ⟨acc', g', h1, h2⟩
    rintro H7 ⟨accO, g7, hO1, hO2⟩
    rw [hlen2] at hO1
    have s57 := s6.trans g7.s
    have s07 := s05.trans s57
    refine ⟨by show 2 ≤ sizeLine; decide, fun tH ntH => ?_⟩
    have sH := same_new (o := .tup [V.ref E1, V.ref O1]) ntH
    have htH : (upd H7 tH (.tup [V.ref E1, V.ref O1])) tH = some (.tup [V.ref E1, V.ref O1]) := upd_same
    generalize (upd H7 tH (.tup [V.ref E1, V.ref O1])) = H8 at *
    have s08 := s07.trans sH
    refine ⟨_, rfl, _, rfl, v4, R.told, rfl, dp_same s08 d4, hB.t.1, hB.t.2.1, fun p hp => ⟨pt p hp, hB.t.2.2 p hp⟩, fun H9 tt td s9 ntt ntd htt htd => ?_⟩
    intro x dx nx ndx nex
    have up : ∀ y oy, H9 y = some oy → (upd (upd H9 dx (.own x)) x (.ins C dx [])) y = some oy := fun y oy hy => by
      rw [upd_ne (ne_of_none hy nx), upd_ne (ne_of_none hy ndx)]; exact hy
    refine ⟨x, dx, tH, a3, tt, rfl, upd_same, fun H' hx9 hk => ⟨rfl, ?_⟩⟩
    have s10 := Same.made nx ndx hk
    have sEnd := (s08.trans s9).trans s10
    have s9e := s9.trans s10
    have s8e := sH.trans s9e
    have s7e := g7.s.trans s8e
    have s5e := s6.trans s7e
    refine k1 okR H' x sEnd ((s08.trans s9).free nx) ⟨dx, tH, a3, tt, E1, O1, hx9, SqT.of (s9e _ _ htH), ⟨accE, SqL.of (s5e _ _ g5.d), hE1, fun j y r h1 h2 => (hE2 j y r h1 h2).same s5e⟩, ⟨accO, SqL.of (s8e _ _ g7.d), hO1, fun j y r h1 h2 => (hO2 j y r h1 h2).same s8e⟩, same_tup sEnd ha3, ⟨tt, td, rfl, SqT.of (s10 _ _ htt), s10 _ _ htd⟩⟩
end
end L2.EH
end S_Q6
section S_Z2
set_option maxRecDepth 100000
set_option maxHeartbeats 4000000
/-! dict comprehensions whose keys are tuples. -/
namespace L2.EH
open PySem PySem.Spec PyProof.Rows L2
section
variable {X : Cx}
/-- one store of a dict's block, for any kind of dict: what is asked of key, value, heap -/
structure DStore (o0 : HO) (St : Addr → V → V → Hp → (Hp → Prop) → Prop) : Prop where
  fresh : ∀ (P : Program) (w : World) (G : Hp) (h : Heap), sysModules < h.objs.size → ObjOk P w G (h.push { cls := .type "dict", data := .dict #[] }) h.objs.size o0
  store : ∀ (Y : Cx) (hu : Y.A.units + 1 < cLine) (pn : List (Addr × Obj)) (τ : L2.St) (G : Hp) (s : Shared) (D : Addr) (y z : V) (u r : Value) (N : Hp → Prop) (F : Value → Shared → Prop), Inv Y pn τ G s → RelV y u → RelV z r → St D y z G N →
    wpAny (model Y.prog Y.w) Y.A (dictSet D u r) (fun _ s' => ∃ G', Inv Y pn τ G' s' ∧ N G') F s
/-- {k: v for target in iter if ..}: the new dict at D begins as o0 -/
def tDcG (o0 : HO) (St : Addr → V → V → Hp → (Hp → Prop) → Prop) (wi : TI) (g : TG) (tt : TT) (tk tv : TE) (vs : List Nat) : TE := fun σ H Q => wi σ H fun J H1 => ∀ D, H1 D = none → ∃ W : Nat → Nat → Hp → Prop, (∃ m, W 0 m (upd H1 D o0)) ∧ ∀ i m H, W i m H →
  (J.stop i H ∧ Q (.ref D) H) ∨ (J.go i H ∧ ∃ Nx : Hp → Prop, (∀ H', Nx H' → ∃ m', m' < m ∧ W (i + 1) m' H') ∧ ∀ x H', J.yld i H x H' → g x (wipe σ vs) H' fun σ2 H2 => wipe σ2 vs = wipe σ vs ∧ tt σ2 H2 fun b H3 =>
    if b = true then tk σ2 H3 fun y H4 => tv σ2 H4 fun z H5 => St D y z H5 Nx else Nx H3)
theorem dcG_core {pn : List (Addr × Obj)} {st0 : Shared} {τ : L2.St} {G : Hp} {Q : VK} {pos' : Pos} {use : Option (Value → Sem Unit)} {Qf : Value → Shared → Prop} {o0 : HO} {St : Addr → V → V → Hp → (Hp → Prop) → Prop} (DS : DStore o0 St) {kx vx tg it0 : Expr} {ifs : List Expr} {sc : Scope} {own : List (Str × Nat)} {pos : Pos} {wi : TI} {g : TG} {tt : TT} {tk tv : TE} (hu : X.A.units + 1 < cLine) (calm : X.calm = true) (nodup : X.N.Nodup) (J0 : Inv X pn τ G st0) (pit : PI X tg it0 wi) (ok : BlkOk X.N X.env.scope sc own)
    (ptg : ∀ (s : Shared) (H : Hp) (C : Addr) (cl : List (Str × Addr)) (fp : List Addr), PG (X.blk s H sc (compEnvC sc cl C X.env) fp) tg g) (pif : ∀ (s : Shared) (H : Hp) (C : Addr) (cl : List (Str × Addr)) (fp : List Addr), PTs (X.blk s H sc (compEnvC sc cl C X.env) fp) ifs tt)
    (pkey : ∀ (s : Shared) (H : Hp) (C : Addr) (cl : List (Str × Addr)) (fp : List Addr), PE (X.blk s H sc (compEnvC sc cl C X.env) fp) kx tk)
    (pval : ∀ (s : Shared) (H : Hp) (C : Addr) (cl : List (Str × Addr)) (fp : List Addr), PE (X.blk s H sc (compEnvC sc cl C X.env) fp) vx tv) (notset : ∀ x, foldedSetIterable it0 X.env x = pure x)
    (h : tDcG o0 St wi g tt tk tv (own.map (·.2)) τ G Q)
    (hRR : ∀ D C s' m H', Inv X pn τ H' s' → Q (.ref D) H' → s'.heap.Ns C m → FpOk X pn H' C → compPost (model X.prog X.w) X.A X.xe use Qf (.ref D) C (.ok .next) s') :
    wpAny (model X.prog X.w) X.A (comprehension (.DictComp kx vx [⟨tg, it0, ifs, 0⟩] sc pos) sc X.env pos' newDict false (eval it0 X.env) use) Qf X.xe st0 := by
  have captured : ∀ y ∈ sc.names, y.2 = .free → ∃ c, X.env.cells.lookup y.1 = some c := fun y hy e => (ok.free y hy e).elim (fun q => J0.ok.has _ (.inl q)) fun q => J0.ok.has _ (.inr q)
  refine wpAny_comprehension_free (use := use) rfl notset (closure_ok captured) ok.kind (fun y hy e => by rw [ok.uniq y hy, e]) (thn (pit.run pn st0 τ G _ J0 h) fun v1 st1 q1 => thn q1 fun v2 st2 q2 => ?_)
  obtain ⟨ia, fp, tn, J, G2, rfl, J2, turns, at2, free2, q⟩ := q2
  refine wpAny_newObj_type (newEnv_comp ?_)
  -- the new dict stands at D
  obtain ⟨D, hD⟩ : ∃ D, D = st2.heap.objs.size := ⟨_, rfl⟩
  obtain ⟨W, ⟨m0, begins⟩, turn⟩ := q D (J2.hok.fresh (Nat.le_of_eq hD.symm))
  have J3 : Inv X pn τ (upd G2 D o0) { st2 with heap := st2.heap.push { cls := .type "dict", data := .dict #[] } } := by
    refine J2.laid (t' := st2.toks) (fun _ _ z => Heap.get?_push_of_some _ z) (Nat.le_of_eq hD.symm) ?_
    rw [hD]; exact DS.fresh _ _ _ _ J2.big
  rw [← hD]
  have low : ∀ b ∈ fp, b < st2.heap.objs.size := fun b hb => Heap.lt_size (turns.obj _ _ at2 b hb).choose_spec.1
  have free3 : ∀ b ∈ fp, FpOk X pn (upd G2 D o0) b ∧ b < (st2.heap.push { cls := .type "dict", data := .dict #[] }).objs.size := fun b hb =>
    ⟨⟨by rw [upd_ne (by rw [hD]; exact Nat.ne_of_lt (low b hb))]; exact (free2 b hb).1, (free2 b hb).2⟩, by rw [Heap.size_push]; exact Nat.lt_succ_of_lt (low b hb)⟩
  have at3 : tn 0 (st2.heap.push { cls := .type "dict", data := .dict #[] }) := turns.keep _ _ _ at2 fun _ _ _ z => Heap.get?_push_of_some _ z
  generalize e3 : ({ st2 with heap := st2.heap.push { cls := .type "dict", data := .dict #[] } } : Shared) = st3 at J3 ⊢
  have hp3 : st2.heap.push { cls := .type "dict", data := .dict #[] } = st3.heap := by rw [← e3]
  rw [hp3] at free3 at3
  have J4 := block_start J3 ok nodup free3
  obtain ⟨cl, hcl⟩ : ∃ cl, cl = cellsFrom (st3.heap.objs.size + 1) sc.names (cloFrom X.env.cells sc.names []) := ⟨_, rfl⟩
  have pg := ptg st3 (upd G2 D o0) st3.heap.objs.size cl fp
  have pt := pif st3 (upd G2 D o0) st3.heap.objs.size cl fp
  have pk := pkey st3 (upd G2 D o0) st3.heap.objs.size cl fp
  have pv' := pval st3 (upd G2 D o0) st3.heap.objs.size cl fp
  rw [← hcl] at J4
  obtain ⟨ce, hce⟩ : ∃ ce, ce = compEnvC sc cl st3.heap.objs.size X.env := ⟨_, rfl⟩
  rw [← hce] at J4 pg pt pk pv'
  have locs : ce.locals = st3.heap.objs.size := by rw [hce]; rfl
  have none3 : ∀ b ∈ fp, (upd G2 D o0) b = none := fun b hb => (free3 b hb).1.1
  show codeAny _ _ (.compStart (.DictComp kx vx [⟨tg, it0, ifs, 0⟩] sc pos) 0 (.ref ia) (.ref D) (compEnvC sc (cellsFrom (st3.heap.objs.size + 1) sc.names (cloFrom X.env.cells sc.names [])) st3.heap.objs.size X.env)) (compPost (model X.prog X.w) X.A X.xe use Qf (.ref D) st3.heap.objs.size) _
  rw [← hcl, ← hce]
  generalize hG3 : upd G2 D o0 = G3 at J3 J4 pg pt pk pv' begins none3 free3
  generalize e4 : ({ st3 with heap := pushCells (st3.heap.push { cls := .type "dict", data := .dict #[] }) sc.names } : Shared) = st4 at J4
  have at4 : tn 0 st4.heap := turns.keep _ _ _ at3 fun _ _ _ z => by rw [← e4]; exact pushCells_keeps _ _ _ _ (Heap.get?_push_of_some _ z)
  have unpins : ∀ {σ' : L2.St} {H' : Hp} {s' : Shared}, Inv (X.blk st3 G3 sc ce fp) [] σ' H' s' → (∀ b ∈ fp, H' b = none) → ∀ b ∈ fp, FpOk (X.blk st3 G3 sc ce fp) [] H' b := fun {_ _ _} K' z b hb =>
    ⟨z b hb, (K'.ok.exf b hb).1, K'.ok.exfs b hb, .inl hb, fun x c w => (K'.ok.exf b hb).2 x c w, fun p hp => by simp at hp⟩
  have loop : codeAny (model X.prog X.w) X.A (.compLoop (.DictComp kx vx [⟨tg, it0, ifs, 0⟩] sc pos) 0 (.ref ia) (.ref D) ce) (compPost (model X.prog X.w) X.A X.xe use Qf (.ref D) st3.heap.objs.size) st4 := by
    refine compLoop_anyD (fun m s' => ∃ i H', Inv (X.blk st3 G3 sc ce fp) [] (wipe τ (own.map (·.2))) H' s' ∧ tn i s'.heap ∧ (∀ b ∈ fp, H' b = none) ∧ W i m H') (fun m s5 hm => ?_) m0 ⟨0, G3, J4, at4, none3, begins⟩
    obtain ⟨i, H5, J5, at5, none5, w5⟩ := hm
    rcases turn i m H5 w5 with ⟨stop, qq⟩ | ⟨go, Nx, less, step⟩
    · -- no item is left
      refine thnF (turns.done (X.blk st3 G3 sc ce fp) rfl rfl rfl calm i [] s5 _ H5 (fun _ _ => False) J5 (unpins J5 none5) at5 stop) fun r s6 ⟨hr, J6⟩ => ?_
      subst hr
      have back : Inv X pn τ H5 s6 := J3.call' (ch := fp) J6.os J6.base J6.hok J6.bare fun b hb => let z := (free3 b hb).1.2; ⟨z.2.2.1, z.1, z.2.2.2.1, z.2.2.2.2⟩
      have gone : H5 st3.heap.objs.size = none := by rw [← locs]; exact J6.free
      obtain ⟨nm, hn, _⟩ := J6.loc
      have hn' : s6.heap.Ns st3.heap.objs.size nm := by rw [← locs]; exact hn
      exact hRR D st3.heap.objs.size s6 nm H5 back qq hn' (J3.fpOk (Nat.le_refl _) gone)
    · -- one more item
      refine thnF (turns.item (X.blk st3 G3 sc ce fp) rfl rfl rfl calm i [] s5 _ H5 (fun _ _ => False) J5 (unpins J5 none5) at5 go) fun r s6 ⟨u, hr, h6⟩ => ?_
      subst hr
      refine thnF h6 fun _ s7 ⟨x, H7, J7, r7, y7, at7, none7⟩ => ?_
      refine thnF (pg.run _ s7 _ H7 x u _ (J7.pinned (unpins J7 none7) (turns.obj _ _ at7)) r7 (step x H7 y7)) fun _ s8 ⟨σ8, H8, J8, wiped, q8⟩ => thnF (pt.run _ s8 σ8 H8 _ J8 q8) fun b s9 ⟨H9, J9, q9⟩ => ?_
      have ends : ∀ {s' : Shared} {H' : Hp}, Inv (X.blk st3 G3 sc ce fp) ([] ++ pinsAt fp s7.heap) σ8 H' s' → Nx H' → ∃ m', m' < m ∧ ∃ i H', Inv (X.blk st3 G3 sc ce fp) [] (wipe τ (own.map (·.2))) H' s' ∧ tn i s'.heap ∧ (∀ b ∈ fp, H' b = none) ∧ W i m' H' := fun {s' H'} K' nx => by
        obtain ⟨m', lt, w'⟩ := less H' nx
        have pinned : ∀ b ∈ fp, ∀ o, s7.heap.get? b = some o → s'.heap.get? b = some o ∧ H' b = none := fun b hb o z => by
          have y := K'.pin (b, o) (List.mem_append_right _ (List.mem_append_right _ (mem_pinsAt hb z)))
          exact ⟨y.1, y.2.1⟩
        refine ⟨m', lt, i + 1, H', (K'.unpinned (pins := [])).weak (by rw [← wiped, wipe_length]) (fun j v z => ?_), turns.keep _ _ _ at7 fun b hb o z => (pinned b hb o z).1, fun b hb => ?_, w'⟩
        · rw [← wiped] at z; exact (wipe_some z).1
        · exact (pinned b hb _ (turns.obj _ _ at7 b hb).choose_spec.1).2
      cases b
      · exact ends J9 q9
      · refine thnF (pk.run _ s9 σ8 H9 _ J9 q9) fun z s10 ⟨yk, H10, J10, r10, q10⟩ => thnF (pv'.run _ s10 σ8 H10 _ J10 q10) fun z2 s11 ⟨yv, H11, J11, r11, q11⟩ => ?_
        exact thnF (DS.store (X.blk st3 G3 sc ce fp) hu _ σ8 H11 s11 D yk yv z z2 Nx (fun _ _ => False) J11 r10 r11 q11) fun _ s12 ⟨H12, J12, nx⟩ => ends J12 nx
  exact codeAny_compStart_dict loop (turns.self X.A 0 _ _ _ at4 loop)
theorem pe_dcG {o0 : HO} {St : Addr → V → V → Hp → (Hp → Prop) → Prop} (DS : DStore o0 St) {kx vx tg it0 : Expr} {ifs : List Expr} {sc : Scope} {own : List (Str × Nat)} {pos : Pos} {wi : TI} {g : TG} {tt : TT} {tk tv : TE} (hu : X.A.units + 1 < cLine) (calm : X.calm = true) (nodup : X.N.Nodup) (pit : PI X tg it0 wi) (ok : BlkOk X.N X.env.scope sc own)
    (ptg : ∀ (s : Shared) (H : Hp) (C : Addr) (cl : List (Str × Addr)) (fp : List Addr), PG (X.blk s H sc (compEnvC sc cl C X.env) fp) tg g) (pif : ∀ (s : Shared) (H : Hp) (C : Addr) (cl : List (Str × Addr)) (fp : List Addr), PTs (X.blk s H sc (compEnvC sc cl C X.env) fp) ifs tt)
    (pkey : ∀ (s : Shared) (H : Hp) (C : Addr) (cl : List (Str × Addr)) (fp : List Addr), PE (X.blk s H sc (compEnvC sc cl C X.env) fp) kx tk)
    (pval : ∀ (s : Shared) (H : Hp) (C : Addr) (cl : List (Str × Addr)) (fp : List Addr), PE (X.blk s H sc (compEnvC sc cl C X.env) fp) vx tv) (notset : ∀ x, foldedSetIterable it0 X.env x = pure x := by intro _; rfl) :
    PE X (.DictComp kx vx [⟨tg, it0, ifs, 0⟩] sc pos) (tDcG o0 St wi g tt tk tv (own.map (·.2))) := by
  refine ⟨fun pn st0 τ G Q J0 h => ?_⟩
  rw [arm_eval_DictComp]
  refine dcG_core (Qf := EP X pn τ Q) DS hu calm nodup J0 pit ok ptg pif pkey pval notset h fun D C s' m H' I' q hn f => ⟨m, hn, fun h'' sb => ?_⟩
  obtain ⟨f0, f1, f2, f3, f4, f5⟩ := f
  exact ⟨.ref D, H', I'.turned (t' := s'.toks) (fun b o hb z => (sb.2 b hb).trans z) f0 f1 f3 f4 f5, rfl, q⟩
theorem ps_setDcG {i : Nat} {y : Str} {py : Pos} {o0 : HO} {St : Addr → V → V → Hp → (Hp → Prop) → Prop} (DS : DStore o0 St) {kx vx tg it0 : Expr} {ifs : List Expr} {sc : Scope} {own : List (Str × Nat)} {pos spos : Pos} {wi : TI} {g : TG} {tt : TT} {tk tv : TE} (hu : X.A.units + 1 < cLine) (calm : X.calm = true) (nodup : X.N.Nodup) (hy : X.N[i]? = some y) (hyl : X.env.scope.names.lookup y = some .local)
    (hsw : swapsWith (.DictComp kx vx [⟨tg, it0, ifs, 0⟩] sc pos) (some (.Name y py)) spos.line X.env = pure true) (pit : PI X tg it0 wi) (ok : BlkOk X.N X.env.scope sc own)
    (ptg : ∀ (s : Shared) (H : Hp) (C : Addr) (cl : List (Str × Addr)) (fp : List Addr), PG (X.blk s H sc (compEnvC sc cl C X.env) fp) tg g) (pif : ∀ (s : Shared) (H : Hp) (C : Addr) (cl : List (Str × Addr)) (fp : List Addr), PTs (X.blk s H sc (compEnvC sc cl C X.env) fp) ifs tt)
    (pkey : ∀ (s : Shared) (H : Hp) (C : Addr) (cl : List (Str × Addr)) (fp : List Addr), PE (X.blk s H sc (compEnvC sc cl C X.env) fp) kx tk)
    (pval : ∀ (s : Shared) (H : Hp) (C : Addr) (cl : List (Str × Addr)) (fp : List Addr), PE (X.blk s H sc (compEnvC sc cl C X.env) fp) vx tv) (notset : ∀ x, foldedSetIterable it0 X.env x = pure x := by intro _; rfl) :
    PS X (.Assign [.Name y py] (.DictComp kx vx [⟨tg, it0, ifs, 0⟩] sc pos) spos) (tAsg (tDcG o0 St wi g tt tk tv (own.map (·.2))) (gName i)) := by
  refine ⟨fun pn st0 τ G D J0 h => ?_⟩
  rw [exec_Assign_Name_used _ _ _ _ hsw]
  refine wpAny_bind (wpAny_standAt (wpAny_bind ?_))
  show wpAny _ X.A (do let _ ← comprehension (.DictComp kx vx [⟨tg, it0, ifs, 0⟩] sc pos) sc X.env (firstIterPos [⟨tg, it0, ifs, 0⟩] pos) newDict false (eval it0 X.env) (some (assign (.Name y py) X.env))) _ _ st0
  have h : tDcG o0 St wi g tt tk tv (own.map (·.2)) τ G (fun x H1 => gName i x τ H1 D.nx) := h
  refine wpAny_bind (thn (dcG_core (Qf := fun _ s' => SP X pn D .next s') DS hu calm nodup J0 pit ok ptg pif pkey pval notset h fun L C s' m H' I' q hn f => ?_) fun _ s' hq => wpAny_pure (wpAny_pure hq))
  show wpAny _ _ (assign (.Name y py) X.env (.ref L)) _ _ _
  refine wpAny_assign_Name (store_ok2 (v := V.ref L) I' nodup hy (.inl hyl) rfl (fun s2 I2 ⟨a, sb, ha⟩ => ?_) (.inr hyl))
  obtain ⟨f0, f1, f2, f3, f4, f5⟩ := f
  have haC : C ≠ a := by
    rcases ha with z | z
    · rw [z]; exact f1
    · exact fun e => f4 y a z e.symm
  refine ⟨m, hn.sameBut sb haC, fun h3 sb3 => ?_⟩
  exact ⟨_, H', I2.turned (t' := s2.toks) (fun b o hb e => (sb3.2 b hb).trans e) f0 f1 f3 f4 f5, q⟩
theorem sw_trueD {kx vx : Expr} {gs : List Comprehension} {scope : Scope} {pos py : Pos} {y : Str} {l : Nat} {env : Env} (hk : env.scope.kind = .function) (hy : env.scope.names.lookup y = some .local) (hl : (py.line == pos.line) = true)
    (ha : (scope.names.any fun (n, k) => n == y && (k == .local || k == .cell)) = false) : swapsWith (.DictComp kx vx gs scope pos) (some (.Name y py)) l env = pure true := by
  have ky : env.kindOf y = some .local := hy
  have kb : env.blockKind = .function := by unfold Env.blockKind; rw [hk]; rfl
  unfold swapsWith
  simp only [kb, ky, ha, Expr.pos, hl]
  rfl
/-! ### keys that are tuples of ints -/
def StT (D : Addr) (y z : V) (H : Hp) (N : Hp → Prop) : Prop := ∃ (kvs : List (List Key × V)) (k : List Key) (b : Addr), y = .ref b ∧ H b = some (.tup (k.map kV)) ∧ H D = some (.dT kvs) ∧ kvs.length < sizeLine ∧ N (upd H D (.dT (putK kvs k z)))
theorem dstT : DStore (.dT []) StT where
  fresh := fun P w G h low => dt_empty h low
  store := fun Y hu pn τ G s D y z u r N F J ru rr ⟨kvs, k, b, ey, eb, eD, l, n⟩ => by
    cases (show u = Value.ref b by rw [ey] at ru; exact ru)
    obtain ⟨z1, low, xs, rel, dd⟩ := dt_of J.hok eD
    have fits : (putK kvs k z).length ≤ sizeLine := by have := length_putK kvs k z; omega
    refine wpAny_dictSet_heap (hsz := by rw [← Paired.length rel]; exact z1) (Nat.lt_of_succ_lt hu) (key_of J.hok eb) dd fun h' dd' same => ⟨_, ?_, n⟩
    obtain ⟨q, es, ep, hq, h2, h3, h4, _, h5⟩ := dd'
    refine d_write J (by rw [eD]; exact True.intro) same ⟨q, hq⟩ ⟨fits, low, _, (rel.put k eb rr).keeps fun c ys ec => ?_, q, es, ep, hq, h2, h3, h4, h5⟩
    rw [upd_ne (ne_of ec eD (fun z => nomatch z))]; exact ec
end
end L2.EH
end S_Z2
section S_Z3
set_option maxRecDepth 100000
set_option maxHeartbeats 4000000
/-! x, *ys = t; repr of True, False and lists of them; in of a tuple of tuples. -/
namespace L2.EH
open PySem PySem.Spec PyProof.Rows L2
section
variable {X : Cx}
def gStar (K : PySem.W.Frag) (g1 g2 : TG) : TG := fun v σ H Q => ∃ (a : Addr) (x : V) (xs : List V), v = .ref a ∧ SqT K H a (x :: xs) ∧ ∀ D, H D = none → g1 x σ (upd H D (.lst xs)) fun σ' H' => g2 (.ref D) σ' H' Q
theorem pg_star {t1 t2 : Expr} {g1 g2 : TG} {k : Nat} {pos p : Pos} (calm : X.calm = true) (h1 : PG X t1 g1) (h2 : PG X t2 g2) (he : assignEach [t1, .Starred t2 p] X.env = [(false, assign t1 X.env), (true, assign t2 X.env)] := by rfl) :
    PG X (.Tuple [t1, .Starred t2 p] k pos) (gStar X.K g1 g2) := by
  constructor
  intro pn s τ G v u Q J r hw
  obtain ⟨a, x, xs, rfl, ht, step⟩ := hw
  cases r
  obtain ⟨its, rel, tup, few⟩ := J.tuple ht
  cases rel with
  | @cons _ u1 _ us r1 rs =>
    have hh : X.A.handled = none := J.ok.hd calm
    have fit2 : us.length + 1 ≤ sizeLine := by have : (x :: xs).length ≤ sizeLine := few
                                               rw [List.length_cons, rs.length] at this; exact this
    have lt : a ≠ s.heap.objs.size := by obtain ⟨o, ho, _⟩ := tup; exact Nat.ne_of_lt (Heap.lt_size ho)
    rw [assign_Tuple, he]
    refine wpAny_bind (wpAny_standAt ?_)
    show wpAny _ _ (holding [Value.ref a] (unpackItems (.ref a) 2 (some 1)) >>= fun l => assignInOrder [assign t1 X.env, assign t2 X.env] l) _ _ _
    refine wpAny_bind (wpAny_holding ?_)
    unfold unpackItems notIterableAtAll
    refine wpAny_bind (wpAny_bind (wpAny_specialOf (IsTup.typeIs tup) slot_tuple_iter.lookup (wpAny_pure ?_)))
    show wpAny _ _ (if false = true then _ else _) _ _ s
    rw [if_neg Bool.false_ne_true]
    refine wpAny_bind (wpAny_holding (iter_tuple tup ?_))
    refine wpAny_bind (wpAny_holding (draw_tuple lt 1 0 _ _ ⟨_, Heap.get?_push_size _ rfl, rfl, rfl⟩ (tup.push _) (by simp) fun h₁ it₁ sb₁ => ?_))
    have tup₁ : IsTup h₁ a (u1 :: us).toArray := (tup.push _).extBut sb₁.extBut lt
    obtain ⟨oi, hoi, _⟩ := id it₁
    obtain ⟨ol, hol, _⟩ := id tup₁
    show wpAny _ _ (if ([u1] : List Value).length < 1 then _ else _) _ _ _
    rw [if_neg (show ¬ ([u1] : List Value).length < 1 from Nat.lt_irrefl 1)]
    refine wpAny_bind (wpAny_holding (PySem.W.kun_collect (s := { s with heap := h₁ }) (T := "tuple_iterator") (.inr (.inr (.inr rfl))) (Walks.tuple (A := X.A.in1) hh s.heap.objs.size a lt (u1 :: us).toArray) (fun j w st => st.1.typeIs) (k := 1) (by simp) ⟨it₁, tup₁⟩ (Heap.lt_size hoi) (Heap.lt_size hol) (fun h₂ tk hk => ?_) (by simpa using fit2)))
    show wpAny _ _ (if us.length < 0 then _ else _) _ _ _
    rw [if_neg (Nat.not_lt_zero _)]
    show wpAny _ _ (newList (us.take us.length) >>= fun d => pure ([u1] ++ [d] ++ us.drop us.length)) _ _ _
    rw [List.take_length, List.drop_length]
    have J2 : Inv X pn τ G { s with heap := h₂, toks := tk } := J.kept (t' := tk) fun b o e => hk b o (Nat.ne_of_lt (Heap.lt_size e)) (sb₁.extBut b o (Nat.ne_of_lt (Heap.lt_size e)) (Heap.get?_push_of_some _ e))
    have free : G h₂.objs.size = none := J2.hok.fresh (Nat.le_refl _)
    have fits : us.length ≤ sizeLine := by omega
    refine wpAny_bind (wpAny_newObj_type ?_ (by show us.toArray.size ≤ sizeLine; simpa using fits))
    refine wpAny_pure ?_
    have J3 := J2.laid (a := h₂.objs.size) (o := .lst xs) (t' := tk) (fun b o e => Heap.get?_push_of_some _ e) (Nat.le_refl _) ⟨by rw [rs.length]; exact fits, us, 0, rs, Heap.get?_push_size _ rfl⟩
    refine assignInOrder_cons (thn (h1.run pn _ τ _ x u1 _ J3 r1 (step _ free)) fun _ s5 ⟨τ5, H5, J5, q5⟩ => ?_)
    refine assignInOrder_cons (thn (h2.run pn _ τ5 _ (.ref h₂.objs.size) _ _ J5 rfl q5) fun _ s6 q6 => ?_)
    exact assignInOrder_nil q6
end
/-! ### order of tuples of ints, in of a tuple of data -/
theorem row_alike : ∀ (a b : List Int), PySem.W.alikeAll (a.map .int) (b.map .int) = true
  | [], b => by simp [PySem.W.alikeAll]
  | x :: a, [] => by simp [PySem.W.alikeAll]
  | x :: a, y :: b => by simp [PySem.W.alikeAll, PySem.W.alike, row_alike a b]
theorem depth_ints : ∀ r : List Int, PyData.depthAll (r.map .int) = 0
  | [] => by simp [PyData.depthAll]
  | x :: r => by simp [PyData.depthAll, depth_ints r, PyData.depth]
theorem depth_row (r : List Int) : (rowD r).depth = 1 := by simp [rowD, PyData.depth, depth_ints r]
theorem rowLt_ints (a b : List Int) : PySem.W.dataLt (rowD a) (rowD b) = decide (a < b) := by
  unfold rowD
  rw [PySem.W.dataLt_tuple]
  exact PySem.W.dataLt_ints a b
def rRowLt (K : PySem.W.Frag) : R2 := fun x y H Q => ∃ a b : List Int, Dp K H x (rowD a) ∧ Dp K H y (rowD b) ∧ Q (.bl (decide (a < b))) H
def rRowGe (K : PySem.W.Frag) : R2 := fun x y H Q => ∃ a b : List Int, Dp K H x (rowD a) ∧ Dp K H y (rowD b) ∧ Q (.bl (!decide (a < b))) H
theorem op_rowLt {X : Cx} (hu : X.A.units + 2 < cLine) : OpR X (compareOp .Lt) (rRowLt X.K) := by
  intro pn s τ G x y v u Q J rx ry h
  obtain ⟨a, b, da, db, q⟩ := h
  obtain ⟨as, r1⟩ := Dp.reads J _ x v da rx
  obtain ⟨bs, r2⟩ := Dp.reads J _ y u db ry
  refine PySem.W.lt_data r1 r2 (by simpa [rowD, PySem.W.alike] using row_alike a b) (fun z => by cases z) ?_ (by rw [rowLt_ints]; exact ⟨.bl _, G, J, rfl, q⟩)
  rw [depth_row, depth_row, Nat.min_self]; omega
theorem op_rowGe {X : Cx} (hu : X.A.units + 2 < cLine) : OpR X (compareOp .GtE) (rRowGe X.K) := by
  intro pn s τ G x y v u Q J rx ry h
  obtain ⟨a, b, da, db, q⟩ := h
  obtain ⟨as, r1⟩ := Dp.reads J _ x v da rx
  obtain ⟨bs, r2⟩ := Dp.reads J _ y u db ry
  refine PySem.W.ge_data r1 r2 (by simpa [rowD, PySem.W.alike] using row_alike a b) (fun z => by cases z) ?_ (by rw [rowLt_ints]; exact ⟨.bl _, G, J, rfl, q⟩)
  rw [depth_row, depth_row, Nat.min_self]; omega
theorem lay_ints : ∀ r : List Int, PyData.canLayAll0 (r.map .int) = true
  | [] => by simp [PyData.canLayAll0]
  | x :: r => by simp [PyData.canLayAll0, lay_ints r, PyData.canLay0]
theorem lay_row (r : List Int) : (rowD r).canLay0 = true := by simpa [rowD, PyData.canLay0] using lay_ints r
theorem lay_rows : ∀ rs : List (List Int), PyData.canLayAll0 (rs.map rowD) = true
  | [] => by simp [PyData.canLayAll0]
  | r :: rs => by simp [PyData.canLayAll0, lay_rows rs, lay_row r]
theorem eqv_ints : ∀ a b : List Int, PyData.eqvAll (a.map .int) (b.map .int) = decide (a = b)
  | [], [] => by simp [PyData.eqvAll]
  | [], y :: b => by simp [PyData.eqvAll]
  | x :: a, [] => by simp [PyData.eqvAll]
  | x :: a, y :: b => by
    simp only [List.map_cons, PyData.eqvAll, eqv_ints a b, PyData.eqv]
    by_cases h : x = y
    · by_cases h2 : a = b
      · simp [h, h2]
      · simp [h2]
    · simp [h]
theorem eqv_row (a b : List Int) : PyData.eqv (rowD a) (rowD b) = decide (a = b) := by
  unfold rowD
  simp only [PyData.eqv]
  exact eqv_ints a b
def rRowIn (neg : Bool) (K : PySem.W.Frag) : R2 := fun x y H Q => ∃ (a : List Int) (rs : List (List Int)), Dp K H x (rowD a) ∧ Dp K H y (.tuple (rs.map rowD)) ∧ Q (.bl (if neg then !decide (a ∈ rs) else decide (a ∈ rs))) H
theorem any_row (a : List Int) (rs : List (List Int)) : ((rs.map rowD).any fun z => PyData.eqv z (rowD a)) = decide (a ∈ rs) := by
  rw [List.any_map]
  by_cases h : a ∈ rs
  · rw [decide_eq_true h]
    exact List.any_eq_true.mpr ⟨a, h, by show PyData.eqv (rowD a) (rowD a) = true; rw [eqv_row]; simp⟩
  · rw [decide_eq_false h]
    refine List.any_eq_false.mpr fun b hb hq => h ?_
    have : PyData.eqv (rowD b) (rowD a) = true := hq
    rw [eqv_row] at this
    exact of_decide_eq_true this ▸ hb
theorem op_rowIn {X : Cx} (hu : X.A.units + 4 < cLine) : OpR X (compareOp .In) (rRowIn false X.K) := by
  intro pn s τ G x y v u Q J rx ry h
  obtain ⟨a, rs, da, db, q⟩ := h
  obtain ⟨as, r1⟩ := Dp.reads J _ x v da rx
  obtain ⟨bs, r2⟩ := Dp.reads J _ y u db ry
  refine SeqAt.in_tuple_reads r2 r1 (lay_rows rs) (lay_row a) ?_ (by rw [any_row]; exact ⟨.bl _, G, J, rfl, q⟩)
  rw [depth_row]; omega
theorem op_rowNotIn {X : Cx} (hu : X.A.units + 4 < cLine) : OpR X (compareOp .NotIn) (rRowIn true X.K) := by
  intro pn s τ G x y v u Q J rx ry h
  obtain ⟨a, rs, da, db, q⟩ := h
  obtain ⟨as, r1⟩ := Dp.reads J _ x v da rx
  obtain ⟨bs, r2⟩ := Dp.reads J _ y u db ry
  refine SeqAt.notIn_tuple_reads r2 r1 (lay_rows rs) (lay_row a) ?_ (by rw [any_row]; exact ⟨.bl _, G, J, rfl, q⟩)
  rw [depth_row]; omega
end L2.EH
end S_Z3
section S_Q7
set_option exponentiation.threshold 2000
set_option maxRecDepth 100000
set_option maxHeartbeats 4000000
namespace L2.EH
open PySem PySem.Spec PyProof.Rows StX
open L2.Halves (has keys)
/-! ### rows of rests -/
def dotp (a b : List Int) : Int := (List.zipWith (· * ·) a b).sum
def spSumProd (K : PySem.W.Frag) : Sp := fun vs H Q _ => ∃ (u v : V) (a b : List Int) (n m : Nat), vs = [u, v] ∧ Dp K H u (rowD a) ∧ Dp K H v (rowD b) ∧ a.length ≤ 900 ∧ (∀ z, z ∈ a → z.natAbs < 2 ^ n) ∧ (∀ z, z ∈ b → z.natAbs < 2 ^ m) ∧ 0 < n ∧ 0 < m ∧ n + m ≤ 1000000 ∧
  ∀ H', Same H H' → Q (.int (dotp a b)) H'
def AscInts (lo : Int) : List Int → Prop
  | [] => True
  | x :: r => lo < x ∧ AscInts x r
def spAreAscending (K : PySem.W.Frag) : Sp := fun vs H Q _ => ∃ (u : V) (a : List Int), vs = [u] ∧ Dp K H u (rowD a) ∧ ∀ b : Bool, (b = true ↔ AscInts (-1) a) → Q (.bl b) H
def madeRow (cols : List Halves.Row) (r : List Int) (m : Int) : List Int := cols.map fun c => rowTimes c r % m
def spMadeRow (K : PySem.W.Frag) : Sp := fun vs H Q _ => ∃ (u : V) (D : Addr) (r : List Int) (cols : List Halves.Row) (m : Int), vs = [u, .ref D, .int m] ∧ Dp K H u (rowD r) ∧ RowsAt K H D cols ∧ cols.length ≤ 900 ∧ 0 < m ∧
  (∀ c, c ∈ cols → (keys c).Nodup ∧ (∀ i, i ∈ keys c → i < r.length) ∧ c.length ≤ 900 ∧ ∀ p, p ∈ c → p.2.natAbs < 2 ^ 1060) ∧ (∀ z, z ∈ r → z.natAbs < 2 ^ 1000) ∧
  ∀ H' p, Same H H' → H p = none → H' p = some (.tup ((madeRow cols r m).map V.int)) → Q (.ref p) H'
theorem scSumProd : FnScope ["row", "values", "one", "other"] ["row", "values"] (defScope sSumProd) := ⟨rfl, rfl, rfl, by decide +kernel, rfl, by decide +kernel, by decide +kernel⟩
theorem scAreAscending : FnScope ["numbers", "before", "number"] ["numbers"] (defScope sAreAscending) := ⟨rfl, rfl, rfl, by decide +kernel, rfl, by decide +kernel, by decide +kernel⟩
theorem scMadeRow : FnScope ["row", "columns", "modulus", "column"] ["row", "columns", "modulus"] (defScope sMadeRow) := ⟨rfl, rfl, rfl, by decide +kernel, rfl, by decide +kernel, by decide +kernel⟩
theorem asc_snoc : ∀ (a : List Int) (lo x : Int), AscInts lo (a ++ [x]) ↔ AscInts lo a ∧ (a.getLast?.getD lo) < x
  | [], lo, x => by simp [AscInts]
  | y :: a, lo, x => by
    have ih := asc_snoc a y x
    simp only [List.cons_append, AscInts, ih]
    cases a with
    | nil => simp [AscInts, and_comm]
    | cons z a =>
      have : ∃ w, (z :: a).getLast? = some w := by
        cases h : (z :: a).getLast? with
        | none => simp at h
        | some w => exact ⟨w, rfl⟩
      obtain ⟨w, hw⟩ := this
      simp only [List.getLast?_cons_cons, hw, Option.getD_some, and_assoc]
theorem asc_take {a : List Int} {lo : Int} : ∀ {i : Nat}, AscInts lo a → AscInts lo (a.take i) := by
  induction a generalizing lo with
  | nil => intro i h; simp [AscInts]
  | cons x a ih =>
    intro i h
    cases i with
    | zero => simp [AscInts]
    | succ i => exact ⟨h.1, ih h.2⟩
section
variable {P : Program} {w : World} {K : PySem.W.Frag} {mg : Str → Option Value} {base : Heap}
theorem ok_sumProd {f : Addr} {fd : FuncData} (F : Fun K "sum_of_products" "sum_of_products" sSumProd f fd) (B : BN mg) : FnOk P w K mg base CX0 1 f fd ["row", "values"] (spSumProd K) := by
  refine F.ok scSumProd (fun vs H Q E h => ?_) (fun cdv A outer s H vs Q E hr h => ?_)
  · obtain ⟨u, v, a, b, n, m, rfl, _⟩ := h
    rfl
  · obtain ⟨u, v, a, b, n, m, rfl, hd1, hd2, hl, ha, hb, n0, m0, hnm, k⟩ := h
    obtain ⟨x, rfl, hx⟩ := dp_row hd1
    obtain ⟨y, rfl, hy⟩ := dp_row hd2
    have nd := scSumProd.nd
    refine ⟨_, pss_one (ps_ret (pe_callB (cr_sum rfl) (by rfl) B.sum (by decide +kernel) (pa_cons (pe_lc (own := [("one", 2), ("other", 3)]) (g := gTup K 2 (gCons (gName 2) (gCons (gName 3) gNil))) (tt := tYes) rfl nd (pi_zipK true true (by rfl) B.zip (pa_cons (pv 0) (pa_cons (pv 1) pa_nil))) (blkOk_by (own := [("one", 2), ("other", 3)]) (N := ["row", "values", "one", "other"]) (sc := defScope sSumProd) (by decide +kernel))
        (fun _ _ _ _ _ => pg_tup rfl (pgs_cons (pg_name (i := 2) nd rfl (Or.inl rfl) (Or.inr rfl)) (pgs_cons (pg_name (i := 3) nd rfl (Or.inl rfl) (Or.inr rfl)) pgs_nil rfl) rfl) rfl rfl) (fun _ _ _ _ _ => pts_nil)
        (fun _ _ _ _ _ => pe_op op_mulW (pv 2) (pv 3))) pa_nil))), ?_⟩
    refine ⟨_, rfl, _, rfl, x, y, _, _, rfl, hx, hy, fun D nD => ?_⟩
    refine lc_out (walk_zipK (t := true) (u := true) rfl) (fun i Hc => Grow H D (((List.zipWith (· * ·) a b).take i).map V.int) Hc) (Grow.start nD) (fun i Hc _ g => ⟨same_tup g.s hx, same_tup g.s hy⟩) ?_ ?_
    · rintro i z H0 Hc hi g ⟨T, u1, u2, rfl, hT, rfl, e1, e2⟩
      replace e1 : (a.map V.int)[i]? = some u1 := e1
      replace e2 : (b.map V.int)[i]? = some u2 := e2
      rw [List.getElem?_map] at e1 e2
      cases h1 : a[i]? with
      | none => rw [h1] at e1; cases e1
      | some z1 =>
        cases h2 : b[i]? with
        | none => rw [h2] at e2; cases e2
        | some z2 =>
          rw [h1] at e1; rw [h2] at e2
          cases e1; cases e2
          have sT := same_new (o := .tup [V.int z1, V.int z2]) hT
          have gz : (List.zipWith (· * ·) a b)[i]? = some (z1 * z2) := by rw [List.getElem?_zipWith, h1, h2]
          have hla : i < a.length := (List.getElem?_eq_some_iff.1 h1).1
          refine ⟨T, _, rfl, SqT.of upd_same, rfl, _, _, rfl, _, _, rfl, rfl, rfl, _, rfl, _, rfl, _, _, rfl, rfl, wide_mul (ha _ (List.mem_of_getElem? h1)) (hb _ (List.mem_of_getElem? h2)) n0 m0 hnm, _, (g.same sT).d, small1000 (by simp; omega), ?_⟩
          have := (g.same sT).step nD (V.int (z1 * z2))
          rw [take_snoc' _ i _ gz, List.map_append]
          exact this
    · intro Hc g
      rw [List.take_of_length_le (by simp)] at g
      exact ⟨D, _, rfl, SqL.of g.d, k _ g.s⟩
theorem ok_areAscending {f fW : Addr} {fd fdW : FuncData} (F : Fun K "are_ascending" "are_ascending" sAreAscending f fd) (FW : Fn' P w K mg base 1 "is_whole" fW fdW ["value"] spIsWhole) : FnOk P w K mg base CX0 2 f fd ["numbers"] (spAreAscending K) := by
  refine F.ok scAreAscending (fun vs H Q E h => ?_) (fun cdv A outer s H vs Q E hr h => ?_)
  · obtain ⟨u, a, rfl, _⟩ := h
    rfl
  · obtain ⟨u, a, rfl, hd, k⟩ := h
    obtain ⟨x, rfl, hx⟩ := dp_row hd
    have nd := scAreAscending.nd
    refine ⟨_, pss_cons (ps_set (i := 1) nd rfl (Or.inl rfl) (pe_un un_neg pe_int))
      (pss_cons (ps_for PassesOwn.never rfl (pi_tup (pv 0)) (pg_name (i := 2) nd rfl (Or.inl rfl))
        (pss_cons (ps_if (PW.pt (pw_or (pt_not (pt_val (pe_call FW.ok hr (by rfl) FW.m FW.k FW.b .nil pass0 (pa_cons (pv 2) pa_nil)))) (pw_or1 (pt_cmpR op_le (pv 2) (pv 1) (nomark _))))) (pss_one (ps_ret pe_bl)) pss_nil)
        (pss_one (ps_set (i := 1) nd rfl (Or.inl rfl) (pv 2)))))
      (pss_one (ps_ret pe_bl))), ?_⟩
    refine ⟨_, rfl, _, rfl, x, rfl, ⟨_, hx⟩, ?_⟩
    refine for_it (walk_tup (xs := a.map V.int)) (fun i σ Hc => Hc = H ∧ AscInts (-1) (a.take i) ∧ ∃ z, σ = [some (.ref x), some (.int ((a.take i).getLast?.getD (-1))), z]) ⟨rfl, by simp [AscInts], none, rfl⟩ (fun i σ Hc _ h => by rw [h.1]; exact hx) ?_ ?_
    · rintro i y σ H0 Hc hi ⟨rfl, hasc, z, rfl⟩ ⟨rfl, hx'⟩
      rw [List.getElem?_map] at hx'
      cases e : a[i]? with
      | none => rw [e] at hx'; cases hx'
      | some q =>
        rw [e] at hx'
        cases hx'
        refine ⟨_, rfl, q, rfl, _, rfl, iteF ⟨_, rfl, _, rfl, _, _, rfl, rfl, _, rfl, ?_⟩⟩
        have tk := take_snoc' a i q e
        by_cases h : (a.take i).getLast?.getD (-1) < q
        · refine iteF' (decide_eq_false (by omega)) ⟨_, rfl, rfl, ?_, some (.int q), ?_⟩
          · rw [tk, asc_snoc]; exact ⟨hasc, h⟩
          · rw [tk, List.getLast?_append]; rfl
        · refine iteT' (decide_eq_true (by omega)) (k false ⟨(fun z => by cases z), fun z => ?_⟩)
          have := asc_take (i := i + 1) z
          rw [tk, asc_snoc] at this
          exact absurd this.2 h
    · rintro σ Hc ⟨rfl, hasc, z, rfl⟩
      rw [List.length_map, List.take_length] at hasc
      exact k true ⟨fun _ => hasc, fun _ => rfl⟩
theorem ok_madeRow {f fT : Addr} {fd fdT : FuncData} (F : Fun K "made_row" "made_row" sMadeRow f fd) (B : BN mg) (FT : Fn' P w K mg base 1 "row_times" fT fdT ["tops", "values"] (spRowTimes K)) : FnOk P w K mg base CX0 2 f fd ["row", "columns", "modulus"] (spMadeRow K) := by
  refine F.ok scMadeRow (fun vs H Q E h => ?_) (fun cdv A outer s H vs Q E hr h => ?_)
  · obtain ⟨u, D, r, cols, m, rfl, _⟩ := h
    rfl
  · obtain ⟨u, D, r, cols, m, rfl, hd, ⟨cs, hcs, hcl, hcr⟩, hl, hm, hc, hrs, k⟩ := h
    obtain ⟨x, rfl, hx⟩ := dp_row hd
    have nd := scMadeRow.nd
    refine ⟨_, pss_one (ps_ret (pe_callTy call_tuple_of (by rfl) B.tuple (by decide +kernel) (pa_cons (pe_lc (own := [("column", 3)]) (g := gName 3) (tt := tYes) rfl nd (pi_list (pv 1)) (blkOk_by (own := [("column", 3)]) (N := ["row", "columns", "modulus", "column"]) (sc := defScope sMadeRow) (by decide +kernel)) (fun _ _ _ _ _ => pg_name (i := 3) nd rfl (Or.inl rfl) (Or.inr rfl)) (fun _ _ _ _ _ => pts_nil)
        (fun _ _ _ _ _ => pe_op op_mod (pe_call FT.ok (by exact hr) (by rfl) FT.m FT.k FT.b .nil pass0 (pa_cons (pv 3) (pa_cons (pv 0) pa_nil))) (pv 2))) pa_nil))), ?_⟩
    refine ⟨_, rfl, D, rfl, ⟨_, hcs⟩, fun L nL => ?_⟩
    refine lc_out (walk_list (xs := cs.map V.ref)) (fun i Hc => Grow H L (((madeRow cols r m).take i).map V.int) Hc) (Grow.start nL) (fun i Hc _ g => SqL.same hcs g.s) ?_ ?_
    · rintro i y H0 Hc hi g ⟨rfl, hx'⟩
      rw [List.getElem?_map] at hx'
      cases e : cs[i]? with
      | none => rw [e] at hx'; cases hx'
      | some c =>
        rw [e] at hx'
        cases hx'
        obtain ⟨h1, h2⟩ := List.getElem?_eq_some_iff.1 e
        have h3 : i < cols.length := by omega
        have hd2 := hcr i h1 h3
        rw [h2] at hd2
        obtain ⟨b1, b2, b3, b4⟩ := hc _ (List.getElem_mem h3)
        refine ⟨rfl, _, rfl, _, rfl, c, x, true, cols[i], r, 1060, 1000, rfl, g.s _ _ hd2, same_tup g.s hx, b1, b2, b3, b4, hrs, by decide, by decide, by decide, fun H2 s2 => ⟨_, rfl, _, _, rfl, rfl, hm, ?_⟩⟩
        have ge : (madeRow cols r m)[i]? = some (rowTimes cols[i] r % m) := by
          unfold madeRow
          rw [List.getElem?_map, List.getElem?_eq_getElem h3]; rfl
        refine ⟨_, (g.same s2).d, small1000 (by simp; omega), ?_⟩
        have := (g.same s2).step nL (V.int (rowTimes cols[i] r % m))
        rw [take_snoc' _ i _ ge, List.map_append]
        exact this
    · intro Hc g
      rw [List.take_of_length_le (by simp [madeRow]; omega)] at g
      refine ⟨L, _, rfl, .inl ⟨SqL.of g.d, fun p np => ?_⟩⟩
      exact k _ p (g.s.trans (same_new np)) (g.s.free np) upd_same
end
end L2.EH
end S_Q7
section S_Q8
set_option exponentiation.threshold 2000
set_option maxRecDepth 100000
set_option maxHeartbeats 4000000
namespace L2.EH
open PySem PySem.Spec PyProof.Rows StX
open L2.Halves (has keys)
/-! ### columns of a matrix of sparse rows -/
def colUp (M : List Halves.Row) (i j : Nat) : Halves.Row := (List.range i).filterMap fun a => if has (M.getD a []) j = true then some (a, Halves.get (M.getD a []) j) else none
theorem colUp_succ (M : List Halves.Row) (i j : Nat) : colUp M (i + 1) j = colUp M i j ++ (if has (M.getD i []) j = true then [(i, Halves.get (M.getD i []) j)] else []) := by
  unfold colUp
  rw [List.range_succ, List.filterMap_append]
  congr 1
  simp only [List.filterMap_cons, List.filterMap_nil]
  split <;> simp_all
theorem colUp_lt (M : List Halves.Row) (i j : Nat) : ∀ p, p ∈ colUp M i j → p.1 < i := fun p hp => by
  obtain ⟨a, ha, h⟩ := List.mem_filterMap.1 hp
  have := List.mem_range.1 ha
  split at h
  · cases h; exact this
  · cases h
theorem colUp_len (M : List Halves.Row) (i j : Nat) : (colUp M i j).length ≤ i := by
  have := List.length_filterMap_le (fun a => if has (M.getD a []) j = true then some (a, Halves.get (M.getD a []) j) else none) (List.range i)
  simpa [colUp] using this
theorem colUp_nodup (M : List Halves.Row) : ∀ (i j : Nat), (keys (colUp M i j)).Nodup
  | 0, j => by simp [colUp, keys]
  | i + 1, j => by
    rw [colUp_succ]
    have ih := colUp_nodup M i j
    split
    · show (keys (colUp M i j ++ [(i, _)])).Nodup
      rw [show keys (colUp M i j ++ [(i, Halves.get (M.getD i []) j)]) = keys (colUp M i j) ++ [i] by simp [keys]]
      refine List.nodup_append.mpr ⟨ih, by simp, fun a ha b hb => ?_⟩
      obtain ⟨p, hp, rfl⟩ := List.mem_map.1 ha
      have := colUp_lt M i j p hp
      have := List.mem_singleton.1 hb
      omega
    · rw [List.append_nil]; exact ih
theorem has_snoc (p : Nat × Int) (j : Nat) : ∀ l : Halves.Row, has (l ++ [p]) j = (has l j || p.1 == j)
  | [] => by simp [has]
  | q :: l => by
    have := has_snoc p j l
    simp only [has, List.cons_append, List.any_cons] at this ⊢
    rw [this, Bool.or_assoc]
/-- the sparse rows -/
def spars (M : List (List (Int × Int))) : List Halves.Row := M.map fun r => shRow (shr r : Int) 0 r
def colsOf (M : List (List (Int × Int))) : List Halves.Row := (List.range M.length).map fun j => colUp (spars M) M.length j
def spMatrixOf (K : PySem.W.Frag) : Sp := fun vs H Q _ => ∃ (a : Addr) (M : List (List (Int × Int))), vs = [.ref a] ∧ ShrsAt K H a M ∧ M.length ≤ 900 ∧ (∀ r, r ∈ M → r.length ≤ M.length ∧ shr r = 1) ∧ ∀ H' D, Same H H' → H D = none → RowsAt K H' D (colsOf M) → Q (.ref D) H'
theorem scMatrixOf : FnScope ["rows", "columns", "at", "tops", "bottom", "to", "_"] ["rows"] (defScope sMatrixOf) := ⟨rfl, rfl, rfl, by decide +kernel, rfl, by decide +kernel, by decide +kernel⟩
section
variable {P : Program} {w : World} {K : PySem.W.Frag} {mg : Str → Option Value} {base : Heap}
theorem ok_matrixOf {f : Addr} {fd : FuncData} (F : Fun K "matrix_of" "matrix_of" sMatrixOf f fd) (B : BN mg) : FnOk P w K mg base CX0 1 f fd ["rows"] (spMatrixOf K) := by
  refine F.ok scMatrixOf (fun vs H Q E h => ?_) (fun cdv A outer s H vs Q E hr h => ?_)
  · obtain ⟨a, M, rfl, _⟩ := h
    rfl
  · obtain ⟨a, M, rfl, ⟨xs, hxs, hxl, hxr⟩, hl, hM, k⟩ := h
    have hu := hu_of hr
    have nd := scMatrixOf.nd
    refine ⟨_, pss_cons (ps_setLc (i := 1) (own := [("_", 6)]) (g := gName 6) (tt := tYes) (by rfl) nd rfl rfl (sw_true rfl rfl rfl (by decide +kernel)) (pi_list (pv 0)) (blkOk_by (own := [("_", 6)]) (N := ["rows", "columns", "at", "tops", "bottom", "to", "_"]) (sc := defScope sMatrixOf) (by decide +kernel)) (fun _ _ _ _ _ => pg_name (i := 6) nd rfl (Or.inl rfl) (Or.inr rfl)) (fun _ _ _ _ _ => pts_nil) (fun _ _ _ _ _ => pe_dnewK))
      (pss_cons (ps_for PassesOwn.never rfl (pi_enumK false (by rfl) B.enum (pa_cons (pv 0) pa_nil)) (pg_tup rfl (pgs_cons (pg_name (i := 2) nd rfl (Or.inl rfl)) (pgs_cons (pg_tup rfl (pgs_cons (pg_name (i := 3) nd rfl (Or.inl rfl)) (pgs_cons (pg_name (i := 4) nd rfl (Or.inl rfl)) pgs_nil))) pgs_nil)))
        (pss_cons (ps_if (pt_cmpR op_ne (pv 4) pe_int (nomark _)) (pss_one (ps_ret pe_non)) pss_nil)
        (pss_one (ps_lock (ps_for PassesOwn.never rfl (pi_keys (pv 3)) (pg_name (i := 5) nd rfl (Or.inl rfl))
          (pss_one (ps_dput hu (pe_ix ix_list (pv 1) (pv 5) (fun _ _ => rfl)) (pv 2) (pe_dget hu (pv 3) (pv 5) (fun _ _ => rfl)) rfl)))))))
      (pss_one (ps_ret (pv 1)))), ?_⟩
    refine ⟨_, rfl, a, rfl, ⟨_, hxs⟩, fun D nD => ?_⟩
    refine lc_out (walk_list (xs := xs)) (fun i Hc => ∃ cs : List Addr, Grow H D (cs.map V.ref) Hc ∧ cs.length = i ∧ cs.Nodup ∧ D ∉ cs ∧ ∀ c, c ∈ cs → H c = none ∧ Hc c = some (.dK [])) ⟨[], Grow.start nD, rfl, List.nodup_nil, by simp, by simp⟩ (fun i Hc _ ⟨cs, g, _⟩ => SqL.same hxs g.s) ?_ ?_
    · rintro i x H0 Hc hi ⟨cs, g, hcl, hnd, hDc, hcs⟩ ⟨rfl, hx'⟩
      refine ⟨rfl, fun p np => ?_⟩
      have hpD : D ≠ p := ne_of_none g.d np
      have sp := same_new (o := .dK []) np
      refine ⟨cs.map V.ref, sp _ _ g.d, small1000 (by rw [List.length_map]; omega), cs ++ [p], ?_, by simp [hcl], ?_, ?_, ?_⟩
      · have := (g.same sp).step nD (V.ref p)
        rw [List.map_append]; exact this
      · refine List.nodup_append.mpr ⟨hnd, by simp, fun b hb c hc => ?_⟩
        rw [List.mem_singleton.1 hc]
        exact ne_of_none (hcs b hb).2 np
      · intro h
        rcases List.mem_append.1 h with h | h
        · exact hDc h
        · exact hpD (List.mem_singleton.1 h)
      · intro c hc
        rcases List.mem_append.1 hc with h | h
        · exact ⟨(hcs c h).1, by rw [upd_ne (fun e => hDc (by rw [← e]; exact h))]; exact sp _ _ (hcs c h).2⟩
        · rw [List.mem_singleton.1 h]
          exact ⟨g.s.free np, by rw [upd_ne (Ne.symm hpD)]; exact upd_same⟩
    rintro H1 ⟨cs, g1, hcl, hnd, hDc, hcs⟩
    rw [hxl] at hcl
    refine ⟨_, rfl, a, xs, rfl, SqL.same hxs g1.s, ?_⟩
    refine for_it (walk_enumK (t := false) (xs := xs)) (fun i σ Hc => Same H Hc ∧ Hc D = some (.lst (cs.map V.ref)) ∧ (∀ j (h : j < cs.length), Hc cs[j] = some (.dK (rowK (colUp (spars M) i j)))) ∧ ∃ x y z q, σ = [some (.ref a), some (.ref D), x, y, z, q, none]) ⟨g1.s, g1.d, fun j h => by rw [(hcs _ (List.getElem_mem h)).2]; rfl, none, none, none, none, rfl⟩ (fun i σ Hc _ h => SqL.same hxs h.1) ?_ ?_
    · rintro i v0 σ H0 Hc hi ⟨hs, hD, hcol, x, y, z, q, rfl⟩ ⟨T, u1, u2, rfl, hT, rfl, e1, e2⟩
      cases e1
      replace e2 : xs[i]? = some u2 := e2
      have hiM : i < M.length := by omega
      have er : M[i]? = some M[i] := List.getElem?_eq_getElem hiM
      obtain ⟨t, d, rfl, ht, hd⟩ := hxr i u2 _ e2 er
      have hrM := hM _ (List.getElem_mem hiM)
      have sT := same_new (o := .tup [V.int (i : Nat), V.ref t]) hT
      have hs2 := hs.trans sT
      have hd2 := hs2 _ _ hd
      rw [hrM.2] at hd2
      have esp : (spars M).getD i [] = shRow ((1 : Nat) : Int) 0 M[i] := by
        unfold spars
        rw [List.getD_eq_getElem?_getD, List.getElem?_map, er]
        simp [hrM.2]
      refine ⟨T, _, rfl, SqT.of upd_same, rfl, _, _, rfl, _, _, rfl, ⟨t, _, rfl, same_tup hs2 ht, rfl, _, _, rfl, _, _, rfl, rfl, rfl, ?_⟩⟩
      refine ⟨_, rfl, rfl, _, rfl, ?_⟩
      rw [hrM.2]
      refine iteF' (by simp) ?_
      generalize hr0 : shRow ((1 : Nat) : Int) 0 M[i] = r at *
      have hrn : (keys r).Nodup := by rw [← hr0]; exact shRow_nodup _ _ _
      have hrk : ∀ j, j ∈ keys r → j < cs.length := fun j hj => by
        rw [← hr0] at hj
        have := shRow_keys _ _ _ _ hj
        omega
      have hcold : ∀ j (h : j < cs.length), cs[j] ≠ d := fun j h e => by
        have := (hcs _ (List.getElem_mem h)).1
        rw [e, hd] at this; cases this
      have hDd : D ≠ d := fun e => by rw [e, hd] at nD; cases nD
      have hcolT : ∀ j (h : j < cs.length), (upd H0 T (.tup [V.int (i : Nat), V.ref t])) cs[j] = some (.dK (rowK (colUp (spars M) i j))) := fun j h => sT _ _ (hcol j h)
      have hDT := sT _ _ hD
      generalize upd H0 T (.tup [V.int (i : Nat), V.ref t]) = H2 at *
      refine ⟨d, _, hd2, trivial, fun od => ⟨_, rfl, d, od, rfl, .inl ⟨_, upd_same, ?_⟩⟩⟩
      refine for_keys (fun n σ Hk => Hk d = some (.frz od (.dK (rowK r))) ∧ (∀ y o', y ≠ d → H y = some o' → Hk y = some o') ∧ Hk D = some (.lst (cs.map V.ref)) ∧
        (∀ j (h : j < cs.length), Hk cs[j] = some (.dK (rowK (colUp (spars M) i j ++ (if has (r.take n) j = true then [(i, Halves.get r j)] else []))))) ∧ ∃ q, σ = [some (.ref a), some (.ref D), some (.int (i : Nat)), some (.ref d), some (.int 1), q, none])
        ⟨upd_same, fun y o' hy ho => by rw [upd_ne hy]; exact hs2 _ _ ho, by rw [upd_ne hDd]; exact hDT, fun j h => by rw [upd_ne (hcold j h), hcolT j h]; simp [has], q, rfl⟩ ?_ ?_ ?_
      · rintro n σ Hk _ ⟨h, _⟩; exact h
      · rintro n kk v σ Hk hn ⟨hF, hk, hD3, hc3, q3, rfl⟩
        obtain ⟨p, hp, rfl, rfl⟩ := rowK_get r n kk v hn
        have hpm : p ∈ r := List.mem_of_getElem? hp
        have hpk : p.1 ∈ keys r := List.mem_map.2 ⟨p, hpm, rfl⟩
        have hv : valV (rowK r) (Sum.inl (p.1 : Int)) = some (V.int p.2) := by
          rw [valV_rowK, if_pos ((Halves.has_iff r p.1).2 hpk), Halves.get_of_mem r p hrn hpm]
        have dg : DGet Hk d (.int (p.1 : Int)) (some (V.int p.2)) := .inl ⟨_, Sum.inl (p.1 : Int), .inr ⟨od, hF⟩, rfl, hv.symm⟩
        have hlt := hrk _ hpk
        have eat : atI (cs.map V.ref) (p.1 : Int) = some (V.ref cs[p.1]) := atI_nat (by rw [List.getElem?_map, List.getElem?_eq_getElem hlt]; rfl)
        have hno : ¬ has (r.take n) p.1 = true := fun h => take_new r n p hp hrn ((Halves.has_iff _ _).1 h)
        have hcp := hc3 p.1 hlt
        rw [if_neg hno, List.append_nil] at hcp
        have enew : i ∉ keys (colUp (spars M) i p.1) := fun h => by
          obtain ⟨q', hq', e⟩ := List.mem_map.1 h
          have := colUp_lt _ _ _ _ hq'
          omega
        refine ⟨_, rfl, _, rfl, d, _, rfl, dg, _, rfl, _, rfl, D, _, _, _, rfl, rfl, SqL.of hD3, eat, _, rfl, cs[p.1], _, rfl, DPut.k (k := Sum.inl (i : Int)) hcp (small1000 (by rw [rowK_length]; have := colUp_len (spars M) i p.1; omega)), ?_⟩
        rw [putK_new enew]
        refine ⟨by rw [upd_ne (fun e => hcold _ hlt e.symm)]; exact hF, fun y o' hy ho => by rw [upd_ne (fun e => by have := (hcs _ (List.getElem_mem hlt)).1; rw [← e, ho] at this; cases this)]; exact hk y o' hy ho, by rw [upd_ne (fun e => hDc (by rw [e]; exact List.getElem_mem hlt))]; exact hD3, fun j h => ?_, _, rfl⟩
        have etk : ∀ j, has (r.take (n + 1)) j = (has (r.take n) j || p.1 == j) := fun j => by
          rw [take_snoc r n p hp, has_snoc]
        by_cases hj : j = p.1
        · subst hj
          rw [upd_same, etk]
          simp [Halves.get_of_mem r p hrn hpm]
        · have hne : cs[j] ≠ cs[p.1] := fun e => hj ((List.getElem_inj hnd).1 e)
          rw [upd_ne hne, hc3 j h, etk, show (p.1 == j) = false by simpa using fun e => hj e.symm, Bool.or_false]
      · rintro σ Hk ⟨hF, hk, hD3, hc3, q3, rfl⟩
        rw [rowK_length, List.take_length] at hc3
        refine ⟨hF, fun y o' ho => ?_, by rw [upd_ne hDd]; exact hD3, fun j h => ?_, _, _, _, _, rfl⟩
        · by_cases ey : y = d
          · subst ey
            rw [upd_same]
            rw [hd] at ho
            rw [← ho, hrM.2, ← hr0]
          · rw [upd_ne ey]; exact hk y o' ey ho
        · rw [upd_ne (hcold j h), hc3 j h, colUp_succ, esp]
    · rintro σ Hc ⟨hs, hD, hcol, x, y, z, q, rfl⟩
      refine ⟨_, rfl, k Hc D hs nD ⟨cs, SqL.of hD, by simp [colsOf, hcl], fun j h h' => ?_⟩⟩
      rw [hcol j h, hxl]
      simp [colsOf]
end
end L2.EH
end S_Q8
section S_Q9
set_option exponentiation.threshold 2000
set_option maxRecDepth 100000
set_option maxHeartbeats 4000000
namespace L2.EH
open PySem PySem.Spec PyProof.Rows StX
open L2.Halves (has keys)
/-! ### rows of rests in ascending order -/
def RowOk (n m : Int) (r : List Int) : Prop := (r.length : Int) = n ∧ ∀ z, z ∈ r → 0 ≤ z ∧ z ≤ m - 1
instance (n m : Int) (r : List Int) : Decidable (RowOk n m r) := by unfold RowOk; infer_instance
def AscR : Option (List Int) → List (List Int) → Prop
  | _, [] => True
  | none, r :: rs => AscR (some r) rs
  | some b, r :: rs => b < r ∧ AscR (some r) rs
theorem ascR_snoc : ∀ (a : List (List Int)) (o : Option (List Int)) (x : List Int), AscR o (a ++ [x]) ↔ AscR o a ∧ ∀ b, (a.getLast?).or o = some b → b < x
  | [], none, x => by simp [AscR]
  | [], some b, x => by simp [AscR]
  | y :: a, o, x => by
    have ih := ascR_snoc a (some y) x
    have e : ∀ o', ((y :: a).getLast?).or o' = (a.getLast?).or (some y) := fun o' => by
      cases a with
      | nil => rfl
      | cons z a =>
        have : ∃ w, (z :: a).getLast? = some w := by
          cases h : (z :: a).getLast? with
          | none => simp at h
          | some w => exact ⟨w, rfl⟩
        obtain ⟨w, hw⟩ := this
        rw [List.getLast?_cons_cons, hw]; rfl
    rw [e o]
    cases o with
    | none => simp only [List.cons_append, AscR]; exact ih
    | some b => simp only [List.cons_append, AscR, ih, and_assoc]
theorem ascR_take {a : List (List Int)} : ∀ {o : Option (List Int)} {i : Nat}, AscR o a → AscR o (a.take i) := by
  induction a with
  | nil => intro o i h; simp [AscR]
  | cons x a ih =>
    intro o i h
    cases i with
    | zero => simp [AscR]
    | succ i =>
      cases o with
      | none => exact ih (o := some x) h
      | some b => exact ⟨h.1, ih h.2⟩
structure RowsOk (n m : Int) (rs : List (List Int)) : Prop where
  few : rs.length ≤ 1024
  each : ∀ r, r ∈ rs → RowOk n m r
  asc : AscR none rs
def rowsD (rs : List (List Int)) : PyData := .tuple (rs.map rowD)
theorem rowsD_tup (rs : List (List Int)) : tupOnly (rowsD rs) = true := tupsOnly_map rowD rowD_tup rs
def spAreRows (K : PySem.W.Frag) : Sp := fun vs H Q _ => ∃ (v : V) (rs : List (List Int)) (n m : Int), vs = [v, .int n, .int m] ∧ Dp K H v (rowsD rs) ∧ rs.length ≤ 100000 ∧ (∀ r, r ∈ rs → r.length ≤ 900) ∧ ∀ b : Bool, (b = true ↔ RowsOk n m rs) → ∀ H', Same H H' → Q (.bl b) H'
theorem scAreRows : FnScope ["value", "width", "modulus", "before", "row", "rest"] ["value", "width", "modulus"] (defScope sAreRows) := ⟨rfl, rfl, rfl, by decide +kernel, rfl, by decide +kernel, by decide +kernel⟩
section
variable {P : Program} {w : World} {K : PySem.W.Frag} {mg : Str → Option Value} {base : Heap}
theorem ok_areRows {f fR fB : Addr} {fd fdR fdB : FuncData} {tS : Tok} (F : Fun K "are_rows" "are_rows" sAreRows f fd) (B : BN mg) (hS : mg "STATES" = some (.int 1024 tS))
    (FR : Fn' P w K mg base 1 "is_row_of" fR fdR ["value", "many"] (spIsRowOf K)) (FB : Fn' P w K mg base 2 "is_between" fB fdB ["value", "low", "high"] spIsBetween) : FnOk P w K mg base CX0 3 f fd ["value", "width", "modulus"] (spAreRows K) := by
  refine F.ok scAreRows (fun vs H Q E h => ?_) (fun cdv A outer s H vs Q E hr h => ?_)
  · obtain ⟨v, rs, n, m, rfl, _⟩ := h
    rfl
  · obtain ⟨v, rs, n, m, rfl, hd, hl, hrl, k⟩ := h
    obtain ⟨a, xs, rfl, ha, hx⟩ := dp_tup hd
    have hlen : xs.length = rs.length := by rw [dpAll_len hx, List.length_map]
    have nd := scAreRows.nd
    have hu2 : (A.deeper (envOfC (Str.ofString "are_rows") (defScope sAreRows) s.heap.objs.size f cdv)).units + 2 < cLine := by
      have := hr.units; omega
    refine ⟨_, pss_cons (ps_if (PW.pt (pw_or (pt_not (pt_val (pe_callB call_isi (by rfl) B.isinst (by decide +kernel) (pa_cons (pv 0) (pa_cons (pe_bltn (v := .ty "tuple") (by rfl) B.tuple (by decide +kernel) rfl) pa_nil)))))
          (pw_or1 (pt_cmpR op_gt (pe_callB call_len (by rfl) B.len boot_len (pa_cons (pv 0) pa_nil)) (pe_glob (v := .int 1024) rfl hS ⟨_, rfl⟩) (nomark _))))) (pss_one (ps_ret pe_bl)) pss_nil)
      (pss_cons (ps_set (i := 3) nd rfl (Or.inl rfl) pe_non)
      (pss_cons (ps_for PassesOwn.never rfl (pi_tup (pv 0)) (pg_name (i := 4) nd rfl (Or.inl rfl))
        (pss_cons (ps_if (PW.pt (pw_or (pt_not (pt_val (pe_call FR.ok (by exact hr.mono (by decide)) (by rfl) FR.m FR.k FR.b .nil pass0 (pa_cons (pv 4) (pa_cons (pv 1) pa_nil)))))
            (pw_or1 (pt_not (pt_val (pe_callB (cr_all rfl) (by rfl) B.all (by decide +kernel) (pa_cons (pe_lc (own := [("rest", 5)]) (g := gName 5) (tt := tYes) rfl nd (pi_tup (pv 4)) (blkOk_by (own := [("rest", 5)]) (N := ["value", "width", "modulus", "before", "row", "rest"]) (sc := defScope sAreRows) (by decide +kernel)) (fun _ _ _ _ _ => pg_name (i := 5) nd rfl (Or.inl rfl) (Or.inr rfl)) (fun _ _ _ _ _ => pts_nil)
              (fun _ _ _ _ _ => pe_call FB.ok (by exact hr.mono (by decide)) (by rfl) FB.m FB.k FB.b .nil pass0 (pa_cons (pv 5) (pa_cons pe_int (pa_cons (pe_op op_sub (pv 2) pe_int) pa_nil))))) pa_nil))))))) (pss_one (ps_ret pe_bl)) pss_nil)
        (pss_cons (ps_if (PW.pt (pw_and (pt_cmpR op_notN (pv 3) pe_non (by rfl)) (pw_and1 (pt_not (pt_cmpR (op_rowLt (by exact hu2)) (pv 3) (pv 4) (nomark _)))))) (pss_one (ps_ret pe_bl)) pss_nil)
        (pss_one (ps_set (i := 3) nd rfl (Or.inl rfl) (pv 4))))))
      (pss_one (ps_ret pe_bl)))), ?_⟩
    have sh := Same.refl H
    refine ⟨_, rfl, _, _, .type "tuple", .type "tuple", true, rfl, .ty _, sqT_ty ha, kit_ty (by decide +kernel), _, rfl, iteF ?_⟩
    refine ⟨_, rfl, _, _, rfl, .inr ⟨_, ha, rfl⟩, _, _, rfl, rfl, _, rfl, ?_⟩
    by_cases hf : rs.length ≤ 1024
    case neg =>
      refine iteT' (decide_eq_true (by rw [hlen]; omega)) (k false ⟨(fun z => by cases z), fun z => absurd z.few hf⟩ H sh)
    refine iteF' (decide_eq_false (by rw [hlen]; omega)) ?_
    refine ⟨_, rfl, a, rfl, ⟨_, ha⟩, ?_⟩
    refine for_it (walk_tup (xs := xs)) (fun i σ Hc => Same H Hc ∧ (∀ r, r ∈ rs.take i → RowOk n m r) ∧ AscR none (rs.take i) ∧ ∃ b z q, σ = [some (.ref a), some (.int n), some (.int m), some b, z, q] ∧ (i = 0 → b = .non) ∧ (∀ r, (rs.take i).getLast? = some r → Dp K Hc b (rowD r)))
      ⟨sh, by simp, by simp [AscR], .non, none, none, rfl, fun _ => rfl, by simp⟩ (fun i σ Hc _ h => same_tup h.1 ha) ?_ ?_
    · rintro i x σ H0 Hc hi ⟨hs, heach, hasc, b, z, q, rfl, hb0, hb1⟩ ⟨rfl, hx'⟩
      obtain ⟨d, hd1, hd2⟩ := dpAll_get' hx hx'
      rw [List.getElem?_map] at hd1
      cases e : rs[i]? with
      | none => rw [e] at hd1; cases hd1
      | some r =>
        rw [e] at hd1
        cases hd1
        have hrm := List.mem_of_getElem? e
        have tk := take_snoc' rs i r e
        have hdr := dp_same hs hd2
        obtain ⟨ar, rfl, har⟩ := dp_row hdr
        have no : ∀ H', Same H H' → ¬ RowsOk n m rs → _ := fun H' s' h => k false ⟨(fun z => by cases z), fun z => absurd z h⟩ H' s'
        refine ⟨_, rfl, _, rfl, ar, _, n, rfl, har, _, rfl, ?_⟩
        by_cases hw : (r.length : Int) = n
        case neg =>
          refine iteT' (by simpa using hw) (no _ hs fun z => hw (z.each r hrm).1)
        refine iteF' (by simpa using hw) ?_
        refine ⟨_, rfl, ar, rfl, ⟨_, har⟩, fun D nD => ?_⟩
        refine lc_out (walk_tup (xs := r.map V.int)) (fun j Hd => Grow _ D (((r.take j).map fun z => decide (0 ≤ z ∧ z ≤ m - 1)).map V.bl) Hd) (Grow.start nD) (fun j Hd _ g => same_tup g.s har) ?_ ?_
        · rintro j y H1 Hd hj g ⟨rfl, hy⟩
          rw [List.getElem?_map] at hy
          cases er : r[j]? with
          | none => rw [er] at hy; cases hy
          | some zz =>
            rw [er] at hy
            cases hy
            refine ⟨rfl, _, rfl, _, rfl, _, _, rfl, rfl, zz, 0, m - 1, rfl, ?_⟩
            have := hrl r hrm
            refine ⟨_, g.d, by rw [List.length_map, List.length_map, List.length_take]; exact small1000 (by omega), ?_⟩
            have := g.step nD (V.bl (decide (0 ≤ zz ∧ zz ≤ m - 1)))
            rw [show ((r.take (j + 1)).map fun z => decide (0 ≤ z ∧ z ≤ m - 1)).map V.bl = ((r.take j).map fun z => decide (0 ≤ z ∧ z ≤ m - 1)).map V.bl ++ [V.bl (decide (0 ≤ zz ∧ zz ≤ m - 1))] by rw [take_snoc' r j zz er, List.map_append, List.map_append]; rfl]
            exact this
        intro Hd g
        rw [List.length_map, List.take_length] at g
        have s2 := hs.trans g.s
        refine ⟨D, _, rfl, SqL.of g.d, _, rfl, ?_⟩
        by_cases ha' : ∀ z, z ∈ r → 0 ≤ z ∧ z ≤ m - 1
        case neg =>
          refine iteT' ?_ (no _ s2 fun z => ha' (z.each r hrm).2)
          rw [Bool.not_eq_true', Bool.eq_false_iff]
          intro h
          refine ha' fun z hz => ?_
          have := List.all_eq_true.mp h (decide (0 ≤ z ∧ z ≤ m - 1)) (List.mem_map.2 ⟨z, hz, rfl⟩)
          simpa using this
        refine iteF' ?_ ?_
        · rw [Bool.not_eq_false']
          refine List.all_eq_true.mpr fun b hb => ?_
          obtain ⟨z, hz, rfl⟩ := List.mem_map.1 hb
          exact decide_eq_true (ha' z hz)
        have hR : RowOk n m r := ⟨hw, ha'⟩
        have each' : ∀ r', r' ∈ rs.take (i + 1) → RowOk n m r' := fun r' h => by
          rw [tk] at h
          rcases List.mem_append.1 h with h | h
          · exact heach r' h
          · rw [List.mem_singleton.1 h]; exact hR
        have har2 : Dp K Hd (.ref ar) (rowD r) := dp_same g.s hdr
        have last' : ∀ r', (rs.take (i + 1)).getLast? = some r' → Dp K Hd (.ref ar) (rowD r') := fun r' h => by
          rw [tk, List.getLast?_append] at h
          cases h
          exact har2
        refine ⟨_, rfl, rfl, _, rfl, ?_⟩
        cases hgl : (rs.take i).getLast? with
        | none =>
          have ht : rs.take i = [] := by simpa using hgl
          have i0 : i = 0 := by
            have := (List.getElem?_eq_some_iff.1 e).1
            have h2 : (rs.take i).length = 0 := by rw [ht]; rfl
            rw [List.length_take] at h2
            omega
          rw [hb0 i0]
          refine iteF' (by simp) (iteF ⟨_, rfl, s2, each', ?_, .ref ar, some (.ref ar), q, rfl, (fun h => by omega), last'⟩)
          rw [tk, ascR_snoc]
          exact ⟨hasc, fun b hb => by rw [hgl] at hb; cases hb⟩
        | some r' =>
          have hb := dp_same g.s (hb1 r' hgl)
          obtain ⟨ab, rfl, hab⟩ := dp_row hb
          refine iteT' (by simp) ⟨_, rfl, _, rfl, r', r, hb, har2, _, rfl, ?_⟩
          by_cases hlt : r' < r
          · refine iteF' (by simpa using hlt) ⟨_, rfl, s2, each', ?_, .ref ar, some (.ref ar), q, rfl, (fun h => by omega), last'⟩
            rw [tk, ascR_snoc]
            exact ⟨hasc, fun b hb => by rw [hgl] at hb; cases hb; exact hlt⟩
          · refine iteT' (by simpa using hlt) (no _ s2 fun z => ?_)
            have := ascR_take (i := i + 1) z.asc
            rw [tk, ascR_snoc] at this
            exact hlt (this.2 r' (by rw [hgl]; rfl))
    · rintro σ Hc ⟨hs, heach, hasc, b, z, q, rfl, hb0, hb1⟩
      rw [List.take_of_length_le (by omega)] at heach hasc
      exact k true ⟨fun _ => ⟨hf, heach, hasc⟩, fun _ => rfl⟩ Hc hs
end
end L2.EH
end S_Q9
section S_Q10
set_option exponentiation.threshold 2000
set_option maxRecDepth 100000
set_option maxHeartbeats 4000000
namespace L2.EH
open PySem PySem.Spec PyProof.Rows StX
open L2.Halves (has keys)
/-! ### None in a list of lists -/
section
variable {X : Cx}
def rNoneInL (K : PySem.W.Frag) : R2 := fun x y H Q => ∃ p xs, x = .non ∧ y = .ref p ∧ SqL K H p xs ∧ (∀ z, z ∈ xs → ∃ a ys, z = .ref a ∧ SqL K H a ys) ∧ Q (.bl false) H
theorem vals_list {pn : List (Addr × Obj)} {τ : L2.St} {G : Hp} {s : Shared} (J : Inv X pn τ G s) : ∀ {xs : List V} {us : List Value}, Vals xs us → (∀ z, z ∈ xs → ∃ a ys, z = .ref a ∧ SqL X.K G a ys) → ∀ u, u ∈ us → ∃ a its, u = .ref a ∧ s.heap.IsList a its
  | _, _, .nil, _ => fun u h => by cases h
  | y :: xs, u :: us, .cons r t, f => fun u' h => by
    rcases List.mem_cons.mp h with rfl | h
    · obtain ⟨a, ys, rfl, q⟩ := f y (List.mem_cons_self ..)
      cases r
      obtain ⟨its, _, hl, _⟩ := J.list q
      exact ⟨a, _, rfl, hl.isList⟩
    · exact vals_list J t (fun z hz => f z (List.mem_cons_of_mem _ hz)) u' h
theorem op_noneInL (hu : X.A.units + 1 < cLine) : OpR X (compareOp .In) (rNoneInL X.K) := by
  intro pn s τ G x y v u Q J rx ry h
  obtain ⟨p, xs, rfl, rfl, hq, f, q⟩ := h
  cases rx
  cases ry
  obtain ⟨its, rv, hl, _⟩ := J.list hq
  have hu1 : X.A.in1.units < cLine := by show X.A.units + 1 < cLine; omega
  have all := vals_list J rv f
  refine SeqAt.in_listAt (fun _ => false) hl.isList (fun z hz => ?_) ⟨.bl _, G, J, rfl, ?_⟩
  · obtain ⟨a, ys, rfl, ha⟩ := all z (by simpa using hz)
    exact SeqAt.EqAt.list_none ha hu1
  · rw [show its.toArray.any (fun _ => false) = false by simp]
    exact q
end
/-! ### tuples of rows that the heap holds -/
def keyOf (r : List Int) : List Key := r.map Sum.inl
theorem keyOf_kV (r : List Int) : (keyOf r).map kV = r.map V.int := by
  unfold keyOf
  rw [List.map_map]; rfl
theorem keyOf_inj {a b : List Int} (h : keyOf a = keyOf b) : a = b := by
  have := congrArg (List.map fun k : Key => match k with | .inl i => i | .inr _ => 0) h
  unfold keyOf at this
  rw [List.map_map, List.map_map] at this
  have e : (fun k : Key => match k with | .inl i => i | .inr _ => (0 : Int)) ∘ Sum.inl = id := rfl
  rw [e, List.map_id, List.map_id] at this
  exact this
structure RowsT (H : Hp) (v : V) (rs : List (List Int)) : Prop where
  ex : ∃ (a : Addr) (ts : List Addr), v = .ref a ∧ H a = some (.tup (ts.map V.ref)) ∧ ts.length = rs.length ∧ ∀ (i : Nat) t r, ts[i]? = some t → rs[i]? = some r → H t = some (.tup (r.map V.int))
theorem RowsT.same {H H' : Hp} {v : V} {rs : List (List Int)} (s : Same H H') (h : RowsT H v rs) : RowsT H' v rs := by
  obtain ⟨a, ts, e, h1, h2, h3⟩ := h.ex
  exact ⟨a, ts, e, s _ _ h1, h2, fun i t r e1 e2 => s _ _ (h3 i t r e1 e2)⟩
theorem dpAll_of {K : PySem.W.Frag} {H : Hp} : ∀ {vs : List V} {ds : List PyData}, vs.length = ds.length → (∀ (i : Nat) v d, vs[i]? = some v → ds[i]? = some d → Dp K H v d) → DpAll K H vs ds
  | [], [], _, _ => .nil
  | v :: vs, d :: ds, e, f => .cons (f 0 v d rfl rfl) (dpAll_of (by simpa using e) fun i v' d' e1 e2 => f (i + 1) v' d' e1 e2)
theorem RowsT.dp {K : PySem.W.Frag} {H : Hp} {v : V} {rs : List (List Int)} (h : RowsT H v rs) : Dp K H v (rowsD rs) := by
  obtain ⟨a, ts, rfl, h1, h2, h3⟩ := h.ex
  refine .tup (SqT.of h1) (dpAll_of (by simp [h2]) fun i v d e1 e2 => ?_)
  rw [List.getElem?_map] at e1 e2
  cases q1 : ts[i]? with
  | none => rw [q1] at e1; cases e1
  | some t =>
    cases q2 : rs[i]? with
    | none => rw [q2] at e2; cases e2
    | some r =>
      rw [q1] at e1; rw [q2] at e2
      cases e1; cases e2
      exact row_dp (SqT.of (h3 i t r q1 q2))
theorem eqV_int (a b : Int) : eqV (.int a) (.int b) = decide (a = b) := by
  by_cases h : a = b
  · subst h; simp [eqV]
  · simp [eqV, h]
theorem inV_ints (z : Int) (E : List Int) : inV (.int z) (E.map V.int) = decide (z ∈ E) := by
  unfold inV
  rw [List.any_map]
  by_cases h : z ∈ E
  · rw [decide_eq_true h]
    exact List.any_eq_true.mpr ⟨z, h, by show eqV (.int z) (.int z) = true; rw [eqV_int]; simp⟩
  · rw [decide_eq_false h]
    refine List.any_eq_false.mpr fun b hb hq => h ?_
    have : eqV (.int b) (.int z) = true := hq
    rw [eqV_int] at this
    exact of_decide_eq_true this ▸ hb
theorem flat_ints (E : List Int) : (E.map V.int).all flatV = true := by
  rw [List.all_map]
  exact List.all_eq_true.mpr fun x _ => rfl
/-! ### rules with whole rows -/
structure Flat (R : Plain) : Prop where
  ok : R.ok = true
  b : PlainB R
  e : ∀ r, r ∈ R.even → shr r = 1
  o : ∀ r, r ∈ R.odd → shr r = 1
structure Widths (R : Plain) (n : Nat) : Prop where
  few : n ≤ 100
  e : R.even.length = n
  o : R.odd.length = n
  f : R.firsts.length = n
  t : R.told.length = n
  er : ∀ r, r ∈ R.even → r.length = n
  or : ∀ r, r ∈ R.odd → r.length = n
theorem square_len {n : Nat} {M : List (List (Int × Int))} (h : squareOk (n : Int) M = true) : M.length = n ∧ ∀ r, r ∈ M → r.length = n := by
  unfold squareOk at h
  have h1 := of_decide_eq_true (Bool.and_eq_true_iff.mp h).1
  have h2 := List.all_eq_true.mp (Bool.and_eq_true_iff.mp h).2
  refine ⟨by omega, fun r hr => ?_⟩
  have h3 := h2 r hr
  unfold frowOk at h3
  have := of_decide_eq_true (Bool.and_eq_true_iff.mp h3).1
  omega
theorem Plain.widths {R : Plain} (h : R.ok = true) : Widths R R.even.length := by
  unfold Plain.ok at h
  simp only [Bool.and_eq_true_iff] at h
  obtain ⟨h1, h2, h3, h4, h5, h6⟩ := h
  have a := square_len h2
  have b := square_len h3
  refine ⟨of_decide_eq_true h1, rfl, b.1, of_decide_eq_true h4, ?_, a.2, b.2⟩
  unfold frowOk at h5
  have := of_decide_eq_true (Bool.and_eq_true_iff.mp h5).1
  omega
theorem cols_ok {M : List (List (Int × Int))} (h1 : ∀ r, r ∈ M → shr r = 1) (hB : ∀ r, r ∈ M → RowB r) : ∀ c, c ∈ colsOf M → (keys c).Nodup ∧ (∀ i, i ∈ keys c → i < M.length) ∧ c.length ≤ M.length ∧ ∀ p, p ∈ c → p.2.natAbs < 2 ^ 1060 := fun c hc => by
  obtain ⟨j, hj, rfl⟩ := List.mem_map.1 hc
  refine ⟨colUp_nodup _ _ _, fun i hi => ?_, colUp_len _ _ _, fun p hp => ?_⟩
  · obtain ⟨p, hp, rfl⟩ := List.mem_map.1 hi
    exact colUp_lt _ _ _ p hp
  · obtain ⟨a, ha, h⟩ := List.mem_filterMap.1 hp
    have ha := List.mem_range.1 ha
    split at h
    · cases h
      have es : (spars M).getD a [] = shRow (shr M[a] : Int) 0 M[a] := by
        unfold spars
        rw [List.getD_eq_getElem?_getD, List.getElem?_map, List.getElem?_eq_getElem ha]; rfl
      show (Halves.get ((spars M).getD a []) j).natAbs < 2 ^ 1060
      rw [es]
      exact get_lt (shRow_small (hB _ (List.getElem_mem ha))) (shRow_nodup _ _ _) j
    · cases h
def toldRow (R : Plain) (m : Int) : List Int := (List.range R.even.length).map fun i => Halves.get (shRow (shr R.told : Int) 0 R.told) i % m
structure ClosedOk (R : Plain) (m : Int) (E : List Int) (rs : List (List Int)) : Prop where
  w : shr R.told = 1
  rows : RowsOk (R.even.length : Int) m rs
  t : toldRow R m ∈ rs
  e : ∀ r, r ∈ rs → madeRow (colsOf R.even) r m ∈ rs
  o : ∀ r, r ∈ rs → madeRow (colsOf R.odd) r m ∈ rs
  a : ∀ r, r ∈ rs → dotp r R.firsts % m ∈ E
def spIsClosed (K : PySem.W.Frag) (C : Addr) : Sp := fun vs H Q _ => ∃ (v : V) (ra e : Addr) (R : Plain) (m : Int) (E : List Int) (rs : List (List Int)), vs = [v, .ref ra, .int m, .ref e] ∧ RowsT H v rs ∧ RuleAt K C H ra R ∧ Flat R ∧ 2 ≤ m ∧ m ≤ 100 ∧ SqT K H e (E.map V.int) ∧ rs.length ≤ 100000 ∧ (∀ r, r ∈ rs → r.length ≤ 900) ∧
  ∀ b : Bool, (b = true ↔ ClosedOk R m E rs) → ∀ H', Same H H' → Q (.bl b) H'
theorem scIsClosed : FnScope ["value", "rule", "modulus", "rests", "width", "matrices", "told", "bottom", "known", "columns", "rows", "row", "at"] ["value", "rule", "modulus", "rests"] (defScope sIsClosed) := ⟨rfl, rfl, rfl, by decide +kernel, rfl, by decide +kernel, by decide +kernel⟩
def knownK (kvs : List (List Key × V)) (rs : List (List Int)) : Prop := kvs.length ≤ rs.length ∧ ∀ r, (valV kvs (keyOf r)).isSome = decide (r ∈ rs)
theorem knownK_put {kvs : List (List Key × V)} {rs : List (List Int)} (h : knownK kvs rs) (r : List Int) : knownK (putK kvs (keyOf r) (.bl true)) (rs ++ [r]) := by
  refine ⟨?_, fun r' => ?_⟩
  · have := length_putK kvs (keyOf r) (.bl true)
    have := h.1
    rw [List.length_append]
    simp only [List.length_singleton]
    omega
  · rw [valV_put]
    by_cases e : r' = r
    · subst e; simp
    · rw [if_neg (fun q => e (keyOf_inj q)), h.2 r']
      simp [e]
end L2.EH
end S_Q10
section S_Q11
set_option exponentiation.threshold 2000
set_option maxRecDepth 100000
set_option maxHeartbeats 4000000
namespace L2.EH
open PySem PySem.Spec PyProof.Rows StX
open L2.Halves (has keys)
theorem big1024 {n : Nat} (h : n ≤ 1024) : n < sizeLine := Nat.lt_of_le_of_lt h (by decide)
theorem all_dec {α : Type} {rs : List α} {p : α → Prop} {f : α → Bool} (h : ∀ r, r ∈ rs → (f r = true ↔ p r)) : (rs.map f).all id = true ↔ ∀ r, r ∈ rs → p r := by
  rw [List.all_map]
  constructor
  · intro h1 r hr
    exact (h r hr).1 (List.all_eq_true.mp h1 r hr)
  · intro h1
    exact List.all_eq_true.mpr fun r hr => (h r hr).2 (h1 r hr)
theorem RowsAt.upd {K : PySem.W.Frag} {H : Hp} {a L : Addr} {M : List Halves.Row} {acc acc' : List V} (h : RowsAt K H a M) (hL : H L = some (.lst acc)) (ne : a ≠ L) : RowsAt K (upd H L (.lst acc')) a M := by
  obtain ⟨xs, h1, h2, h3⟩ := h
  refine ⟨xs, ?_, h2, fun i p q => ?_⟩
  · rcases h1 with (h | ⟨o, h⟩) | h
    · exact .inl (.inl (by rw [upd_ne ne]; exact h))
    · exact .inl (.inr ⟨o, by rw [upd_ne ne]; exact h⟩)
    · exact .inr h
  · have := h3 i p q
    rw [upd_ne (fun e => by rw [e, hL] at this; cases this)]
    exact this
section
variable {P : Program} {w : World} {K : PySem.W.Frag} {mg : Str → Option Value} {base : Heap}
theorem ok_isClosed {C f fA fM fR fS : Addr} {fd fdA fdM fdR fdS : FuncData} (F : Fun K "is_closed" "is_closed" sIsClosed f fd) (B : BN mg) (T : PlainC K C)
    (FA : Fn' P w K mg base 3 "are_rows" fA fdA ["value", "width", "modulus"] (spAreRows K)) (FM : Fn' P w K mg base 1 "matrix_of" fM fdM ["rows"] (spMatrixOf K))
    (FR : Fn' P w K mg base 2 "made_row" fR fdR ["row", "columns", "modulus"] (spMadeRow K)) (FS : Fn' P w K mg base 1 "sum_of_products" fS fdS ["row", "values"] (spSumProd K)) :
    FnOk P w K mg base CX0 4 f fd ["value", "rule", "modulus", "rests"] (spIsClosed K C) := by
  refine F.ok scIsClosed (fun vs H Q E h => ?_) (fun cdv A outer s H vs Q E hr h => ?_)
  · obtain ⟨v, ra, e, R, m, EE, rs, rfl, _⟩ := h
    rfl
  · obtain ⟨v, ra, e, R, m, EE, rs, rfl, hv, hra, hF, hm2, hm12, hE, hl, hrl, k⟩ := h
    obtain ⟨dx, hh, hs, ht, ae, ao, h1, h2, h3, h4, h5, ⟨t', d, rfl', h6, h7⟩⟩ := hra.ex
    cases rfl'
    have hW := Plain.widths hF.ok
    obtain ⟨va, ts, rfl, hva, htl, htr⟩ := hv.ex
    have nd := scIsClosed.nd
    have hu := hu_of hr
    have hu2 : (A.deeper (envOfC (Str.ofString "is_closed") (defScope sIsClosed) s.heap.objs.size f cdv)).units + 1 < cLine := hu
    refine ⟨_, pss_cons (ps_set (i := 4) nd rfl (Or.inl rfl) (pe_callB call_len (by rfl) B.len boot_len (pa_cons (pe_fld (pv 1) rfl) pa_nil)))
      (pss_cons (ps_setLc (i := 5) (own := [("rows", 10)]) (g := gName 10) (tt := tYes) (by rfl) nd rfl rfl (sw_true rfl rfl rfl (by decide +kernel)) (pi_tup (pe_fld (pv 1) rfl)) (blkOk_by (own := [("rows", 10)]) (N := ["value", "rule", "modulus", "rests", "width", "matrices", "told", "bottom", "known", "columns", "rows", "row", "at"]) (sc := defScope sIsClosed) (by decide +kernel)) (fun _ _ _ _ _ => pg_name (i := 10) nd rfl (Or.inl rfl) (Or.inr rfl)) (fun _ _ _ _ _ => pts_nil)
          (fun _ _ _ _ _ => pe_call FM.ok (by exact hr.mono (by decide)) (by rfl) FM.m FM.k FM.b .nil pass0 (pa_cons (pv 10) pa_nil)))
      (pss_cons (ps_asg (pe_fld (pv 1) rfl) (pg_tup rfl (pgs_cons (pg_name (i := 6) nd rfl (Or.inr rfl)) (pgs_cons (pg_name (i := 7) nd rfl (Or.inl rfl)) pgs_nil))))
      (pss_cons (ps_if (PW.pt (pw_or (pt_cmpR (op_noneInL (by exact hu)) pe_non (pv 5) (by rfl)) (pw_or (pt_cmpR op_ne (pv 7) pe_int (nomark _))
          (pw_or1 (pt_not (pt_val (pe_call FA.ok (by exact hr.mono (by decide)) (by rfl) FA.m FA.k FA.b .nil pass0 (pa_cons (pv 0) (pa_cons (pv 4) (pa_cons (pv 2) pa_nil)))))))))) (pss_one (ps_ret pe_bl)) pss_nil)
      (pss_cons (ps_set (i := 8) nd rfl (Or.inr rfl) (pe_dcG (own := [("row", 11)]) (g := gName 11) (tt := tYes) dstT (by exact hu) (by rfl) nd (pi_tup (pv 0)) (blkOk_by (own := [("row", 11)]) (N := ["value", "rule", "modulus", "rests", "width", "matrices", "told", "bottom", "known", "columns", "rows", "row", "at"]) (sc := defScope sIsClosed) (by decide +kernel)) (fun _ _ _ _ _ => pg_name (i := 11) nd rfl (Or.inl rfl) (Or.inr rfl)) (fun _ _ _ _ _ => pts_nil)
          (fun _ _ _ _ _ => pv 11) (fun _ _ _ _ _ => pe_bl)))
      (pss_cons (ps_if (pt_cmp (pc_dnotin (by exact hu) (pe_callTy call_tuple_of (by rfl) B.tuple (by decide +kernel) (pa_cons (pe_lc (own := [("at", 12)]) (g := gName 12) (tt := tYes) rfl nd (pi_range1 (by rfl) B.range (pa_cons (pv 4) pa_nil)) (blkOk_by (own := [("at", 12)]) (N := ["value", "rule", "modulus", "rests", "width", "matrices", "told", "bottom", "known", "columns", "rows", "row", "at"]) (sc := defScope sIsClosed) (by decide +kernel)) (fun _ _ _ _ _ => pg_name (i := 12) nd rfl (Or.inl rfl) (Or.inr rfl)) (fun _ _ _ _ _ => pts_nil)
          (fun _ _ _ _ _ => pe_op op_mod (pe_dget2 (by exact hu) (pv 6) (pv 12) pe_int ⟨rfl, rfl, rfl, rfl⟩) (pv 2))) pa_nil)) (pv 8))) (pss_one (ps_ret pe_bl)) pss_nil)
      (pss_cons (ps_for PassesOwn.never rfl (pi_list (pv 5)) (pg_name (i := 9) nd rfl (Or.inr rfl))
        (pss_one (ps_if (pt_not (pt_val (pe_callB (cr_all rfl) (by rfl) B.all (by decide +kernel) (pa_cons (pe_lc (own := [("row", 11)]) (g := gName 11) (tt := tYes) rfl nd (pi_tup (pv 0)) (blkOk_by (own := [("row", 11)]) (N := ["value", "rule", "modulus", "rests", "width", "matrices", "told", "bottom", "known", "columns", "rows", "row", "at"]) (sc := defScope sIsClosed) (by decide +kernel)) (fun _ _ _ _ _ => pg_name (i := 11) nd rfl (Or.inl rfl) (Or.inr rfl)) (fun _ _ _ _ _ => pts_nil)
          (fun _ _ _ _ _ => pe_cmp (pc_din (by exact hu) (pe_call FR.ok (by exact hr.mono (by decide)) (by rfl) FR.m FR.k FR.b .nil pass0 (pa_cons (pv 11) (pa_cons (pv 9) (pa_cons (pv 2) pa_nil)))) (pv 8)))) pa_nil)))) (pss_one (ps_ret pe_bl)) pss_nil)))
      (pss_one (ps_ret (pe_callB (cr_all rfl) (by rfl) B.all (by decide +kernel) (pa_cons (pe_lc (own := [("row", 11)]) (g := gName 11) (tt := tYes) rfl nd (pi_tup (pv 0)) (blkOk_by (own := [("row", 11)]) (N := ["value", "rule", "modulus", "rests", "width", "matrices", "told", "bottom", "known", "columns", "rows", "row", "at"]) (sc := defScope sIsClosed) (by decide +kernel)) (fun _ _ _ _ _ => pg_name (i := 11) nd rfl (Or.inl rfl) (Or.inr rfl)) (fun _ _ _ _ _ => pts_nil)
          (fun _ _ _ _ _ => pe_cmpR (show OpR _ (compareOp .In) (rIn K false) from op_in_seq) (pe_op op_mod (pe_call FS.ok (by exact hr.mono (by decide)) (by rfl) FS.m FS.k FS.b .nil pass0 (pa_cons (pv 11) (pa_cons (show PE _ _ (tFld K (tVar 1) "starts") from pe_fld (pv 1) rfl) pa_nil))) (pv 2)) (pv 3) (by rfl))) pa_nil)))))))))), ?_⟩
    have sh := Same.refl H
    have no : ∀ H', Same H H' → ¬ ClosedOk R m EE rs → Q (.bl false) H' := fun H' s' h => k false ⟨(fun z => by cases z), fun z => absurd z h⟩ H' s'
    have fldS : (ruleF hh hs ht).lookup ("starts" : Str) = some (V.ref hs) := ruleF_s _ _ _
    refine ⟨_, rfl, ra, C, dx, _, _, rfl, h1, T.cl, T.ns, ruleF_s _ _ _, _, _, rfl, .inr ⟨_, h5, rfl⟩, ?_⟩
    have eW : ((R.firsts.map V.int).length : Int) = (R.even.length : Int) := by rw [List.length_map, hW.f]
    rw [eW]
    -- the matrices
    refine ⟨_, rfl, ra, C, dx, _, _, rfl, h1, T.cl, T.nh, ruleF_h _ _ _, hh, rfl, ⟨_, h2⟩, fun L nL => ?_⟩
    have mats : ∀ i : Nat, i < 2 → ∃ (a : Addr) (M : List (List (Int × Int))), [V.ref ae, V.ref ao][i]? = some (V.ref a) ∧ [R.even, R.odd][i]? = some M ∧ ShrsAt K H a M ∧ M.length ≤ 900 ∧ ∀ r, r ∈ M → r.length ≤ M.length ∧ shr r = 1 := fun i hi => by
      match i, hi with
      | 0, _ => exact ⟨ae, R.even, rfl, rfl, h3, by have := hW.few; omega, fun r hr => ⟨by rw [hW.er r hr]; exact Nat.le_refl _, hF.e r hr⟩⟩
      | 1, _ => exact ⟨ao, R.odd, rfl, rfl, h4, by have := hW.few; have := hW.o; omega, fun r hr => ⟨by rw [hW.or r hr, hW.o]; exact Nat.le_refl _, hF.o r hr⟩⟩
    refine lc_out (walk_tup (xs := [V.ref ae, V.ref ao])) (fun i Hc => ∃ ds : List Addr, Grow H L (ds.map V.ref) Hc ∧ ds.length = i ∧ (∀ x, x ∈ ds → H x = none) ∧ L ∉ ds ∧ ∀ (j : Nat) x M, ds[j]? = some x → [R.even, R.odd][j]? = some M → RowsAt K Hc x (colsOf M)) ⟨[], Grow.start nL, rfl, by simp, by simp, by simp⟩ (fun i Hc _ ⟨ds, g, _⟩ => same_tup g.s h2) ?_ ?_
    · rintro i x H0 Hc hi ⟨ds, g, hdl, hdn, hLd, hds⟩ ⟨rfl, hx'⟩
      obtain ⟨a, M, e1, e2, e3, e4, e5⟩ := mats i hi
      rw [e1] at hx'
      cases hx'
      refine ⟨rfl, _, rfl, a, M, rfl, e3.same g.s, e4, e5, fun H' D s' nD hD => ?_⟩
      refine ⟨_, (g.same s').d, small1000 (by have hi2 : i < 2 := hi; rw [List.length_map]; omega), ds ++ [D], ?_, by simp [hdl], ?_, ?_, ?_⟩
      · have := (g.same s').step nL (V.ref D)
        rw [List.map_append]; exact this
      · intro x hx
        rcases List.mem_append.1 hx with h | h
        · exact hdn x h
        · rw [List.mem_singleton.1 h]; exact g.s.free nD
      · intro h
        rcases List.mem_append.1 h with h | h
        · exact hLd h
        · have := g.d
          rw [List.mem_singleton.1 h, nD] at this; cases this
      · intro j x M' q1 q2
        have gd := (g.same s').d
        by_cases hj : j < ds.length
        · rw [List.getElem?_append_left hj] at q1
          have hxm := List.mem_of_getElem? q1
          exact ((hds j x M' q1 q2).same s').upd gd (fun e => hLd (e ▸ hxm))
        · have hj2 : j = i := by
            have := (List.getElem?_eq_some_iff.1 q1).1
            simp at this; omega
          subst hj2
          rw [List.getElem?_append_right (by omega), hdl, Nat.sub_self] at q1
          cases q1
          rw [e2] at q2
          cases q2
          exact hD.upd gd (fun e => by have := g.d; rw [← e, nD] at this; cases this)
    rintro Hm ⟨ds, g1, hdl, hdn, hLd, hds⟩
    obtain ⟨D1, D2, rfl⟩ : ∃ D1 D2, ds = [D1, D2] := by
      match ds, hdl with
      | [x, y], _ => exact ⟨x, y, rfl⟩
    have hD1 := hds 0 D1 _ rfl rfl
    have hD2 := hds 1 D2 _ rfl rfl
    have sM := g1.s
    refine ⟨_, rfl, ra, C, dx, _, _, rfl, sM _ _ h1, T.cl, T.na, ruleF_a _ _ _, ht, _, rfl, same_tup sM h6, rfl, _, _, rfl, _, _, rfl, rfl, ?_⟩
    refine ⟨_, rfl, L, _, rfl, rfl, SqL.of g1.d, fun z hz => ?_, _, rfl, iteF ?_⟩
    · rcases List.mem_cons.1 hz with rfl | hz
      · obtain ⟨xs, q, _⟩ := hD1
        exact ⟨D1, _, rfl, q⟩
      · rcases List.mem_cons.1 hz with rfl | hz
        · obtain ⟨xs, q, _⟩ := hD2
          exact ⟨D2, _, rfl, q⟩
        · cases hz
    refine ⟨_, rfl, rfl, _, rfl, ?_⟩
    by_cases hw : shr R.told = 1
    case neg => exact iteT' (by simp; omega) (no _ sM fun z => hw z.w)
    refine iteF' (by simp [hw]) ?_
    refine ⟨_, rfl, _, rfl, _, rfl, _, rs, _, m, rfl, (hv.same sM).dp, hl, hrl, fun b hb Ha sa => ⟨_, rfl, ?_⟩⟩
    have s1 := sM.trans sa
    by_cases hR : RowsOk (R.even.length : Int) m rs
    case neg =>
      have : b = false := by rw [Bool.eq_false_iff]; exact fun z => hR (hb.1 z)
      subst this
      exact iteT (no _ s1 fun z => hR z.rows)
    rw [hb.2 hR]
    refine iteF ?_
    -- the dict of known rows
    have hlen : rs.length ≤ 1024 := hR.few
    have hvaa := s1 _ _ hva
    refine ⟨_, rfl, va, rfl, ⟨_, SqT.of hvaa⟩, fun D nD => ?_⟩
    refine lc_out (walk_tup (xs := ts.map V.ref)) (fun i Hc => (∀ b o, Ha b = some o → Hc b = some o) ∧ ∃ kvs, Hc D = some (.dT kvs) ∧ knownK kvs (rs.take i)) ⟨same_new nD, [], upd_same, by simp, fun r => by simp [valV]⟩ (fun i Hc _ h => SqT.of (h.1 _ _ hvaa)) ?_ ?_
    · rintro i x H0 Hc hi ⟨hs2, kvs, hD, hk⟩ ⟨rfl, hx'⟩
      rw [List.getElem?_map] at hx'
      cases e1 : ts[i]? with
      | none => rw [e1] at hx'; cases hx'
      | some t =>
        rw [e1] at hx'
        cases hx'
        have hir : i < rs.length := by rw [← htl]; exact (List.getElem?_eq_some_iff.1 e1).1
        have e2 : rs[i]? = some rs[i] := List.getElem?_eq_getElem hir
        have htt := hs2 _ _ (s1 _ _ (htr i t _ e1 e2))
        rw [← keyOf_kV] at htt
        refine ⟨rfl, _, rfl, kvs, keyOf rs[i], t, rfl, htt, hD, ?_, fun b o hb => ?_, _, upd_same, ?_⟩
        · have := hk.1
          rw [List.length_take] at this
          exact big1024 (by omega)
        · rw [upd_ne (by intro z; rw [z, nD] at hb; cases hb)]; exact hs2 _ _ hb
        · rw [take_snoc' rs i _ e2]; exact knownK_put hk _
    rintro Hk ⟨sk, kvs, hDk, hk⟩
    rw [List.length_map, htl, List.take_length] at hk
    have s2 : Same H Hk := s1.trans sk
    -- the told row
    refine ⟨_, rfl, (R.even.length : Int), rfl, by omega, by have := hW.few; omega, fun G nG => ?_⟩
    have en : ((R.even.length : Int).toNat) = R.even.length := by omega
    rw [en]
    refine lc_out walk_range (fun i Hc => Grow Hk G (((toldRow R m).take i).map V.int) Hc) (Grow.start nG) (fun _ _ _ _ => trivial) ?_ ?_
    · rintro i x H0 Hc hi g ⟨rfl, rfl⟩
      have eI : ((0 : Int) + (i : Nat)) = (i : Int) := by omega
      show gName 12 (V.int (0 + (i : Nat))) _ _ _
      rw [eI]
      have hd' := g.s _ _ (s2 _ _ h7)
      refine ⟨rfl, _, rfl, d, rfl, .inl ⟨_, .inl hd'⟩, _, rfl, _, DGet.k (k := Sum.inl (i : Int)) hd', ?_⟩
      rw [getD_row]
      have ge : (toldRow R m)[i]? = some (Halves.get (shRow (shr R.told : Int) 0 R.told) i % m) := by
        unfold toldRow
        rw [List.getElem?_map, List.getElem?_range hi]; rfl
      refine ⟨_, rfl, _, _, rfl, rfl, by omega, _, g.d, small1000 (by have := hW.few; rw [List.length_map, List.length_take]; unfold toldRow; simp; omega), ?_⟩
      have := g.step nG (V.int (Halves.get (shRow (shr R.told : Int) 0 R.told) i % m))
      rw [take_snoc' _ i _ ge, List.map_append]
      exact this
    intro Hg g
    rw [List.take_of_length_le (by simp [toldRow])] at g
    refine ⟨G, _, rfl, .inl ⟨SqL.of g.d, fun p np => ?_⟩⟩
    have sp := same_new (o := .tup ((toldRow R m).map V.int)) np
    have s3 : Same Hk _ := g.s.trans sp
    have hp : upd Hg p (.tup ((toldRow R m).map V.int)) p = some (.tup ((keyOf (toldRow R m)).map kV)) := by rw [keyOf_kV]; exact upd_same
    generalize upd Hg p (.tup ((toldRow R m).map V.int)) = Ht at *
    have hDt := s3 _ _ hDk
    have s4 : Same H Ht := s2.trans s3
    refine ⟨_, rfl, D, _, rfl, DGet.t hDt hp, _, rfl, ?_⟩
    rw [hk.2]
    by_cases ht1 : toldRow R m ∈ rs
    case neg => exact iteT' (by simpa using ht1) (no _ s4 fun z => ht1 z.t)
    refine iteF' (by simpa using ht1) ?_
    have hLt := s3 _ _ (sk _ _ (sa _ _ g1.d))
    have rowz : ∀ r, r ∈ rs → ∀ z, z ∈ r → z.natAbs < 2 ^ 10 := fun r hr z hz => by
      have := (hR.each r hr).2 z hz
      have e10 : (2 : Nat) ^ 10 = 1024 := by decide
      omega
    have rowsz : ∀ r, r ∈ rs → ∀ z, z ∈ r → z.natAbs < 2 ^ 1000 := fun r hr z hz => Nat.lt_of_lt_of_le (rowz r hr z hz) (Nat.pow_le_pow_right (by decide) (by decide))
    have rowl : ∀ r, r ∈ rs → r.length = R.even.length := fun r hr => by have := (hR.each r hr).1; omega
    have s0t := s4
    have hD1' : RowsAt K Ht D1 (colsOf R.even) := ((hD1.same sa).same sk).same s3
    have hD2' : RowsAt K Ht D2 (colsOf R.odd) := ((hD2.same sa).same sk).same s3
    have matc : ∀ i : Nat, i < 2 → ∃ (a : Addr) (M : List (List (Int × Int))), [V.ref D1, V.ref D2][i]? = some (V.ref a) ∧ [R.even, R.odd][i]? = some M ∧ RowsAt K Ht a (colsOf M) ∧ M.length = R.even.length ∧ (∀ r, r ∈ M → shr r = 1) ∧ ∀ r, r ∈ M → RowB r := fun i hi => by
      match i, hi with
      | 0, _ => exact ⟨D1, R.even, rfl, rfl, hD1', rfl, hF.e, hF.b.e⟩
      | 1, _ => exact ⟨D2, R.odd, rfl, rfl, hD2', hW.o, hF.o, hF.b.o⟩
    refine ⟨_, rfl, L, rfl, ⟨_, SqL.of hLt⟩, ?_⟩
    refine for_it (walk_list (xs := [V.ref D1, V.ref D2])) (fun i σ Hc => Same Ht Hc ∧ (∀ (j : Nat) M, j < i → [R.even, R.odd][j]? = some M → ∀ r, r ∈ rs → madeRow (colsOf M) r m ∈ rs) ∧
      ∃ x, σ = [some (.ref va), some (.ref ra), some (.int m), some (.ref e), some (.int (R.even.length : Int)), some (.ref L), some (.ref d), some (.int (shr R.told : Int)), some (.ref D), x, none, none, none])
      ⟨Same.refl _, fun j M h => absurd h (Nat.not_lt_zero _), none, rfl⟩ (fun i σ Hc _ h => SqL.of (h.1 _ _ hLt)) ?_ ?_
    · rintro i v0 σ H0 Hc hi ⟨s5, hc, x, rfl⟩ ⟨rfl, hx'⟩
      obtain ⟨a, M, q1, q2, q3, q4, q5, q6⟩ := matc i hi
      rw [q1] at hx'
      cases hx'
      have s5' := s4.trans s5
      have cok := cols_ok q5 q6
      have hva5 := s5' _ _ hva
      refine ⟨_, rfl, va, rfl, ⟨_, SqT.of hva5⟩, fun G nG => ?_⟩
      refine lc_out (walk_tup (xs := ts.map V.ref)) (fun j Hd => Grow _ G (((rs.take j).map fun r => decide (madeRow (colsOf M) r m ∈ rs)).map V.bl) Hd) (Grow.start nG) (fun j Hd _ g => SqT.of (g.s _ _ hva5)) ?_ ?_
      · rintro j y H1 Hd hj g5 ⟨rfl, hy⟩
        rw [List.getElem?_map] at hy
        cases e1 : ts[j]? with
        | none => rw [e1] at hy; cases hy
        | some t =>
          rw [e1] at hy
          cases hy
          have hjr : j < rs.length := by rw [← htl]; exact (List.getElem?_eq_some_iff.1 e1).1
          have e2 : rs[j]? = some rs[j] := List.getElem?_eq_getElem hjr
          have hjm := List.getElem_mem hjr
          have st := s5'.trans g5.s
          have htt := st _ _ (htr j t _ e1 e2)
          refine ⟨rfl, _, rfl, _, rfl, _, rfl, .ref t, a, rs[j], colsOf M, m, rfl, row_dp (SqT.of htt), (q3.same s5).same g5.s, by unfold colsOf; simp; have := hW.few; omega, by omega, fun c hc => ?_, rowsz _ hjm, fun H2 p s6 np hp => ?_⟩
          · obtain ⟨b1, b2, b3, b4⟩ := cok c hc
            exact ⟨b1, fun i hi => by rw [rowl _ hjm, ← q4]; exact b2 i hi, by have := hW.few; omega, b4⟩
          · rw [← keyOf_kV] at hp
            have hD6 := s6 _ _ (g5.s _ _ (s5 _ _ hDt))
            refine ⟨_, rfl, D, _, rfl, DGet.t hD6 hp, ?_⟩
            rw [hk.2]
            have := (g5.same s6).step nG (V.bl (decide (madeRow (colsOf M) rs[j] m ∈ rs)))
            refine ⟨_, (g5.same s6).d, big1024 (by rw [List.length_map, List.length_map, List.length_take]; omega), ?_⟩
            rw [show ((rs.take (j + 1)).map fun r => decide (madeRow (colsOf M) r m ∈ rs)).map V.bl = ((rs.take j).map fun r => decide (madeRow (colsOf M) r m ∈ rs)).map V.bl ++ [V.bl (decide (madeRow (colsOf M) rs[j] m ∈ rs))] by rw [take_snoc' rs j _ e2, List.map_append, List.map_append]; rfl]
            exact this
      intro Hd g5
      rw [List.length_map, htl, List.take_length] at g5
      have s6 := s5.trans g5.s
      refine ⟨G, _, rfl, SqL.of g5.d, _, rfl, ?_⟩
      have ad := all_dec (rs := rs) (p := fun r => madeRow (colsOf M) r m ∈ rs) (f := fun r => decide (madeRow (colsOf M) r m ∈ rs)) (fun r _ => decide_eq_true_iff)
      by_cases ha : ∀ r, r ∈ rs → madeRow (colsOf M) r m ∈ rs
      case neg =>
        refine iteT' (by rw [Bool.not_eq_true', Bool.eq_false_iff]; exact fun z => ha (ad.1 z)) (no _ (s4.trans s6) fun z => ha ?_)
        match i, hi with
        | 0, _ => cases q2; exact z.e
        | 1, _ => cases q2; exact z.o
      refine iteF' (by rw [ad.2 ha]; rfl) ⟨s6, fun j M' hj hM' => ?_, _, rfl⟩
      by_cases hji : j < i
      · exact hc j M' hji hM'
      · have : j = i := by omega
        subst this
        rw [q2] at hM'
        cases hM'
        exact ha
    rintro σ Hc ⟨s5, hc, x, rfl⟩
    have ce := hc 0 R.even (show 0 < 2 by decide) rfl
    have co := hc 1 R.odd (show 1 < 2 by decide) rfl
    have s5' := s4.trans s5
    have hva5 := s5' _ _ hva
    refine ⟨_, rfl, va, rfl, ⟨_, SqT.of hva5⟩, fun G nG => ?_⟩
    refine lc_out (walk_tup (xs := ts.map V.ref)) (fun j Hd => Grow _ G (((rs.take j).map fun r => decide (dotp r R.firsts % m ∈ EE)).map V.bl) Hd) (Grow.start nG) (fun j Hd _ g => SqT.of (g.s _ _ hva5)) ?_ ?_
    · rintro j y H1 Hd hj g5 ⟨rfl, hy⟩
      rw [List.getElem?_map] at hy
      cases e1 : ts[j]? with
      | none => rw [e1] at hy; cases hy
      | some t =>
        rw [e1] at hy
        cases hy
        have hjr : j < rs.length := by rw [← htl]; exact (List.getElem?_eq_some_iff.1 e1).1
        have e2 : rs[j]? = some rs[j] := List.getElem?_eq_getElem hjr
        have hjm := List.getElem_mem hjr
        have st := s5'.trans g5.s
        have htt := st _ _ (htr j t _ e1 e2)
        refine ⟨rfl, _, rfl, _, rfl, ra, C, dx, _, _, rfl, st _ _ h1, T.cl, T.ns, ruleF_s _ _ _, .ref t, .ref hs, rs[j], R.firsts, 10, 1000, rfl, row_dp (SqT.of htt), row_dp (same_tup st h5), hrl _ hjm, rowz _ hjm, hF.b.f, by decide, by decide, by decide, fun H2 s6 => ?_⟩
        refine ⟨_, rfl, _, _, rfl, rfl, by omega, _, rfl, e, _, rfl, .inr (same_tup (st.trans s6) hE), rfl, flat_ints EE, ?_⟩
        rw [if_neg (by decide), inV_ints]
        have := (g5.same s6).step nG (V.bl (decide (dotp rs[j] R.firsts % m ∈ EE)))
        refine ⟨_, (g5.same s6).d, big1024 (by rw [List.length_map, List.length_map, List.length_take]; omega), ?_⟩
        rw [show ((rs.take (j + 1)).map fun r => decide (dotp r R.firsts % m ∈ EE)).map V.bl = ((rs.take j).map fun r => decide (dotp r R.firsts % m ∈ EE)).map V.bl ++ [V.bl (decide (dotp rs[j] R.firsts % m ∈ EE))] by rw [take_snoc' rs j _ e2, List.map_append, List.map_append]; rfl]
        exact this
    intro Hd g5
    rw [List.length_map, htl, List.take_length] at g5
    refine ⟨G, _, rfl, SqL.of g5.d, ?_⟩
    have ad := all_dec (rs := rs) (p := fun r => dotp r R.firsts % m ∈ EE) (f := fun r => decide (dotp r R.firsts % m ∈ EE)) (fun r _ => decide_eq_true_iff)
    exact k _ (ad.trans ⟨fun h => ⟨hw, hR, ht1, ce, co, h⟩, fun z => z.a⟩) _ (s5'.trans g5.s)
end
end L2.EH
end S_Q11
section S_Q12
set_option exponentiation.threshold 2000
set_option maxRecDepth 100000
set_option maxHeartbeats 4000000
namespace L2.EH
open PySem PySem.Spec PyProof.Rows StX
open L2.Halves (has keys)
structure RestsOk (R : Plain) (m : Int) (E : List Int) (rs : List (List Int)) : Prop where
  m2 : 2 ≤ m
  m12 : m ≤ 12
  asc : AscInts (-1) E
  lt : ∀ z, z ∈ E → z < m
  c : ClosedOk R m E rs
/-- what accepts is asked: a claim of rests -/
structure Asked (K : PySem.W.Frag) (H : Hp) (v : V) (R : Plain) (m : Int) (e : Addr) (E : List Int) (c : V) (rs : List (List Int)) : Prop where
  d : Dp K H v (plainD R)
  f : Flat R
  e : SqT K H e (E.map V.int)
  el : E.length ≤ 900
  r : RowsT H c rs
  rl : rs.length ≤ 100000
  rr : ∀ r, r ∈ rs → r.length ≤ 900
def spIsRests (K : PySem.W.Frag) : Sp := fun vs H Q _ => ∃ (t : Addr) (v : V) (e : Addr) (c : V) (R : Plain) (m : Int) (E : List Int) (rs : List (List Int)), vs = [.ref t, c] ∧ SqT K H t [v, .int m, .ref e] ∧ Asked K H v R m e E c rs ∧
  ∀ b : Bool, (b = true ↔ RestsOk R m E rs) → ∀ H', Same H H' → Q (.bl b) H'
def spAccepts (K : PySem.W.Frag) : Sp := fun vs H Q _ => ∃ (t : Addr) (v : V) (e : Addr) (c : V) (R : Plain) (m : Int) (E : List Int) (rs : List (List Int)), vs = [.ref t, c] ∧ SqT K H t [.str "rests", v, .int m, .ref e] ∧ Asked K H v R m e E c rs ∧
  ∀ b : Bool, (b = true ↔ RestsOk R m E rs) → ∀ H', Same H H' → Q (.bl b) H'
theorem scIsRests : FnScope ["things", "certificate", "value", "modulus", "rests", "rule", "rest"] ["things", "certificate"] (defScope sIsRests) := ⟨rfl, rfl, rfl, by decide +kernel, rfl, by decide +kernel, by decide +kernel⟩
theorem scAccepts : FnScope ["claim", "certificate", "word", "things", "check"] ["claim", "certificate"] (defScope sAccepts) := ⟨rfl, rfl, rfl, by decide +kernel, rfl, by decide +kernel, by decide +kernel⟩
theorem Asked.same {K : PySem.W.Frag} {H H' : Hp} {v : V} {R : Plain} {m : Int} {e : Addr} {E : List Int} {c : V} {rs : List (List Int)} (s : Same H H') (h : Asked K H v R m e E c rs) : Asked K H' v R m e E c rs :=
  ⟨dp_same s h.d, h.f, same_tup s h.e, h.el, h.r.same s, h.rl, h.rr⟩
section
variable {P : Program} {w : World} {K : PySem.W.Frag} {mg : Str → Option Value} {base : Heap}
theorem ok_isRests {C f fP fB fA fC : Addr} {fd fdP fdB fdA fdC : FuncData} {tM : Tok} (F : Fun K "is_rests" "is_rests" sIsRests f fd) (B : BN mg) (T : PlainC K C) (hM : mg "MODULUS" = some (.int 12 tM))
    (FP : Fn' P w K mg base 5 "plain_in" fP fdP ["value"] (spPlainIn K C)) (FB : Fn' P w K mg base 2 "is_between" fB fdB ["value", "low", "high"] spIsBetween)
    (FA : Fn' P w K mg base 2 "are_ascending" fA fdA ["numbers"] (spAreAscending K)) (FC : Fn' P w K mg base 4 "is_closed" fC fdC ["value", "rule", "modulus", "rests"] (spIsClosed K C)) :
    FnOk P w K mg base CX0 6 f fd ["things", "certificate"] (spIsRests K) := by
  refine F.ok scIsRests (fun vs H Q E h => ?_) (fun cdv A outer s H vs Q E hr h => ?_)
  · obtain ⟨t, v, e, c, R, m, EE, rs, rfl, _⟩ := h
    rfl
  · obtain ⟨t, v, e, c, R, m, EE, rs, rfl, ht, hA, k⟩ := h
    have nd := scIsRests.nd
    have hu := hu_of hr
    refine ⟨_, pss_cons (ps_asg (pv 0) (pg_tup rfl (pgs_cons (pg_name (i := 2) nd rfl (Or.inl rfl)) (pgs_cons (pg_name (i := 3) nd rfl (Or.inr rfl)) (pgs_cons (pg_name (i := 4) nd rfl (Or.inl rfl)) pgs_nil)))))
      (pss_cons (ps_set (i := 5) nd rfl (Or.inl rfl) (pe_call FP.ok (by exact hr.mono (by decide)) (by rfl) FP.m FP.k FP.b .nil pass0 (pa_cons (pv 2) pa_nil)))
      (pss_cons (ps_if (PW.pt (pw_or (pt_cmpR op_isN (pv 5) pe_non (by rfl)) (pw_or (pt_not (pt_val (pe_call FB.ok (by exact hr.mono (by decide)) (by rfl) FB.m FB.k FB.b .nil pass0 (pa_cons (pv 3) (pa_cons pe_int (pa_cons (pe_glob (v := .int 12) rfl hM ⟨_, rfl⟩) pa_nil))))))
          (pw_or1 (pt_not (pt_val (pe_callB call_isi (by rfl) B.isinst (by decide +kernel) (pa_cons (pv 4) (pa_cons (pe_bltn (v := .ty "tuple") (by rfl) B.tuple (by decide +kernel) rfl) pa_nil))))))))) (pss_one (ps_ret pe_bl)) pss_nil)
      (pss_cons (ps_if (PW.pt (pw_or (pt_not (pt_val (pe_call FA.ok (by exact hr.mono (by decide)) (by rfl) FA.m FA.k FA.b .nil pass0 (pa_cons (pv 4) pa_nil))))
          (pw_or1 (pt_not (pt_val (pe_callB (cr_all rfl) (by rfl) B.all (by decide +kernel) (pa_cons (pe_lc (own := [("rest", 6)]) (g := gName 6) (tt := tYes) rfl nd (pi_tup (pv 4)) (blkOk_by (own := [("rest", 6)]) (N := ["things", "certificate", "value", "modulus", "rests", "rule", "rest"]) (sc := defScope sIsRests) (by decide +kernel)) (fun _ _ _ _ _ => pg_name (i := 6) nd rfl (Or.inl rfl) (Or.inr rfl)) (fun _ _ _ _ _ => pts_nil)
            (fun _ _ _ _ _ => pe_cmpR op_lt (pv 6) (pv 3) (nomark _))) pa_nil))))))) (pss_one (ps_ret pe_bl)) pss_nil)
      (pss_one (ps_ret (pe_call FC.ok (by exact hr.mono (by decide)) (by rfl) FC.m FC.k FC.b .nil pass0 (pa_cons (pv 1) (pa_cons (pv 5) (pa_cons (pv 3) (pa_cons (pv 4) pa_nil)))))))))), ?_⟩
    have no : ∀ H', Same H H' → ¬ RestsOk R m EE rs → Q (.bl false) H' := fun H' s' h => k false ⟨(fun z => by cases z), fun z => absurd z h⟩ H' s'
    refine ⟨_, rfl, t, _, rfl, ht, rfl, _, _, rfl, _, _, rfl, _, _, rfl, rfl, ?_⟩
    refine ⟨_, rfl, v, R, rfl, hA.d, hA.f.b, fun _ H1 p s1 np hp => ?_, fun z => by rw [hA.f.ok] at z; cases z⟩
    refine ⟨_, rfl, rfl, _, rfl, iteF ?_⟩
    refine ⟨_, rfl, m, 2, 12, rfl, _, rfl, ?_⟩
    by_cases hm : 2 ≤ m ∧ m ≤ 12
    case neg => exact iteT' (by rw [decide_eq_false hm]; rfl) (no _ s1 fun z => hm ⟨z.m2, z.m12⟩)
    refine iteF' (by rw [decide_eq_true hm]; rfl) ?_
    refine ⟨_, rfl, _, _, .type "tuple", .type "tuple", true, rfl, .ty _, sqT_ty (same_tup s1 hA.e), kit_ty (by decide +kernel), _, rfl, iteF ?_⟩
    have hE1 := same_tup s1 hA.e
    refine ⟨_, rfl, .ref e, EE, rfl, row_dp hE1, fun b hb => ⟨_, rfl, ?_⟩⟩
    by_cases ha : AscInts (-1) EE
    case neg =>
      have : b = false := by rw [Bool.eq_false_iff]; exact fun z => ha (hb.1 z)
      subst this
      exact iteT (no _ s1 fun z => ha z.asc)
    rw [hb.2 ha]
    refine iteF ?_
    refine ⟨_, rfl, e, rfl, ⟨_, hE1⟩, fun D nD => ?_⟩
    refine lc_out (walk_tup (xs := EE.map V.int)) (fun j Hd => Grow H1 D (((EE.take j).map fun z => decide (z < m)).map V.bl) Hd) (Grow.start nD) (fun j Hd _ g => same_tup g.s hE1) ?_ ?_
    · rintro j y H2 Hd hj g ⟨rfl, hy⟩
      rw [List.getElem?_map] at hy
      cases er : EE[j]? with
      | none => rw [er] at hy; cases hy
      | some zz =>
        rw [er] at hy
        cases hy
        have hjl := (List.getElem?_eq_some_iff.1 er).1
        have hel := hA.el
        have := g.step nD (V.bl (decide (zz < m)))
        refine ⟨rfl, _, rfl, _, rfl, _, _, rfl, rfl, _, g.d, small1000 (by rw [List.length_map, List.length_map, List.length_take]; omega), ?_⟩
        rw [show ((EE.take (j + 1)).map fun z => decide (z < m)).map V.bl = ((EE.take j).map fun z => decide (z < m)).map V.bl ++ [V.bl (decide (zz < m))] by rw [take_snoc' EE j zz er, List.map_append, List.map_append]; rfl]
        exact this
    intro Hd g
    rw [List.length_map, List.take_length] at g
    refine ⟨D, _, rfl, SqL.of g.d, _, rfl, ?_⟩
    have s2 := s1.trans g.s
    have ad := all_dec (rs := EE) (p := fun z => z < m) (f := fun z => decide (z < m)) (fun r _ => decide_eq_true_iff)
    by_cases hl : ∀ z, z ∈ EE → z < m
    case neg => exact iteT' (by rw [Bool.not_eq_true', Bool.eq_false_iff]; exact fun z => hl (ad.1 z)) (no _ s2 fun z => hl z.lt)
    refine iteF' (by rw [ad.2 hl]; rfl) ?_
    obtain ⟨va, ts, rfl, _⟩ := hA.r.ex
    exact ⟨_, rfl, _, rfl, _, rfl, _, rfl, .ref va, p, e, R, m, EE, rs, rfl, hA.r.same s2, hp.same g.s, hA.f, hm.1, by omega, same_tup s2 hA.e, hA.rl, hA.rr, fun b hb H3 s3 => k b (hb.trans ⟨fun z => ⟨hm.1, hm.2, ha, hl, z⟩, fun z => z.c⟩) H3 (s2.trans s3)⟩
theorem ok_accepts {f fR dC dT : Addr} {fd fdR : FuncData} {es1 es2 : Array DictEntry} {n1 n2 : Nat} (F : Fun K "accepts" "accepts" sAccepts f fd) (B : BN mg) (hC : mg "CHECKS" = some (.ref dC)) (hT : mg "THINGS" = some (.ref dT))
    (DC : KDict K w dC es1 n1) (gC : KDct K w dC "rests" (.ref fR)) (gT : KDct K w dT "rests" (.int 3))
    (FR : FnOk P w K mg base CX0 6 fR fdR ["things", "certificate"] (spIsRests K)) (bR : Binds K fdR ["things", "certificate"] []) (kR : PySem.W.keepIn K (.ref fR) = true) :
    FnOk P w K mg base CX0 7 f fd ["claim", "certificate"] (spAccepts K) := by
  refine F.ok scAccepts (fun vs H Q E h => ?_) (fun cdv A outer s H vs Q E hr h => ?_)
  · obtain ⟨t, v, e, c, R, m, EE, rs, rfl, _⟩ := h
    rfl
  · obtain ⟨t, v, e, c, R, m, EE, rs, rfl, ht, hA, k⟩ := h
    have nd := scAccepts.nd
    have at0 : atI [V.str "rests", v, V.int m, V.ref e] 0 = some (V.str "rests") := rfl
    refine ⟨_, pss_cons (ps_if (PW.pt (pw_or (pt_not (pt_val (pe_callB call_isi (by rfl) B.isinst (by decide +kernel) (pa_cons (pv 0) (pa_cons (pe_bltn (v := .ty "tuple") (by rfl) B.tuple (by decide +kernel) rfl) pa_nil)))))
          (pw_or (pt_not (pt_truth (pv 0) (fun _ => rfl))) (pw_or1 (pt_not (pt_val (pe_callB call_isi (by rfl) B.isinst (by decide +kernel) (pa_cons (pe_ix ix_tup (pv 0) pe_int (fun _ _ => rfl)) (pa_cons (pe_bltn (v := .ty "str") (by rfl) B.str (by decide +kernel) rfl) pa_nil))))))))) (pss_one (ps_ret pe_bl)) pss_nil)
      (pss_cons (ps_asg (pv 0) (pg_star rfl (pg_name (i := 2) nd rfl (Or.inl rfl)) (pg_name (i := 3) nd rfl (Or.inl rfl))))
      (pss_cons (ps_if (PW.pt (pw_or (pt_cmpR (op_notIn_kd DC) (pv 2) (pe_glob (v := .ref dC) rfl hC rfl) (by rfl)) (pw_or1 (pt_cmpR op_ne (pe_callB call_len (by rfl) B.len boot_len (pa_cons (pv 3) pa_nil)) (pe_ix ix_kdict (pe_glob (v := .ref dT) rfl hT rfl) (pv 2) (fun _ _ => rfl)) (by rfl))))) (pss_one (ps_ret pe_bl)) pss_nil)
      (pss_cons (ps_set (i := 4) nd rfl (Or.inl rfl) (pe_ix ix_kdict (pe_glob (v := .ref dC) rfl hC rfl) (pv 2) (fun _ _ => rfl)))
      (pss_one (ps_ret (pe_callL (i := 4) FR (by exact hr) rfl (Or.inl rfl) kR bR .nil pass0 (pa_cons (pe_callTy call_tuple_of (by rfl) B.tuple (by decide +kernel) (pa_cons (pv 3) pa_nil)) (pa_cons (pv 1) pa_nil)))))))), ?_⟩
    refine ⟨_, rfl, _, _, .type "tuple", .type "tuple", true, rfl, .ty _, sqT_ty ht, kit_ty (by decide +kernel), _, rfl, iteF ?_⟩
    refine ⟨_, rfl, true, .inr (.inl ⟨_, ht, rfl⟩), iteF ?_⟩
    refine ⟨_, rfl, t, _, _, _, rfl, rfl, ht, at0, _, _, .type "str", .type "str", true, rfl, .ty _, .base (.str _), kit_ty (by decide +kernel), _, rfl, iteF ?_⟩
    refine ⟨_, rfl, t, _, _, rfl, ht, fun D nD => ?_⟩
    have sD := same_new (o := .lst [v, V.int m, V.ref e]) nD
    obtain ⟨es, n, u, g1, g2, g3, g4⟩ := id gC
    refine ⟨_, rfl, "rests", _, rfl, rfl, g3, _, rfl, iteF ?_⟩
    refine ⟨_, rfl, _, _, rfl, .inl ⟨_, SqL.of upd_same, rfl⟩, _, rfl, dT, "rests", .int 3, rfl, rfl, gT, rfl, _, rfl, iteF ?_⟩
    refine ⟨_, rfl, dC, "rests", .ref fR, rfl, rfl, gC, ?_⟩
    refine ⟨rfl, _, rfl, D, _, rfl, .inl ⟨SqL.of upd_same, fun p np => ?_⟩⟩
    have s2 := sD.trans (same_new (o := .tup [v, V.int m, V.ref e]) np)
    exact ⟨_, rfl, p, v, e, c, R, m, EE, rs, rfl, SqT.of upd_same, hA.same s2, fun b hb H' s' => k b hb H' (s2.trans s')⟩
end
end L2.EH
end S_Q12
section S_Q13
set_option maxRecDepth 100000
set_option maxHeartbeats 4000000
namespace L2.EH
open PySem PySem.Spec PyProof.Rows StX
abbrev PM : Int := 2147483629
def spCell (K : PySem.W.Frag) : Sp := fun vs H Q _ => ∃ (a : Addr) (ns : List Int) (k : Nat), vs = [.ref a, .int (k : Int)] ∧ SqL K H a (ns.map V.int) ∧ ns.length ≤ 63 ∧ k ≤ 100 ∧ ∀ (z : Int) H', Same H H' → Q (.int z) H'
def spSource : Sp := fun vs H Q _ => ∃ (z : Int), vs = [.int z] ∧ ∀ (p : Addr) (m f : Int), H p = none → 0 ≤ m → m < PM → 0 ≤ f → Q (.ref p) (upd H p (.lst [.int m, .int f, .int 0]))
/-! ### sources -/
def Kept (p : Addr) (H H' : Hp) : Prop := ∀ b o, b ≠ p → H b = some o → H' b = some o
theorem Kept.refl (p : Addr) (H : Hp) : Kept p H H := fun _ _ _ h => h
theorem Kept.trans {p : Addr} {H H' H'' : Hp} (a : Kept p H H') (b : Kept p H' H'') : Kept p H H'' := fun x o n h => b x o n (a x o n h)
theorem Same.kept {p : Addr} {H H' : Hp} (s : Same H H') : Kept p H H' := fun x o _ h => s x o h
theorem kept_upd (p : Addr) (H : Hp) (o : HO) : Kept p H (upd H p o) := fun x q n h => by rw [upd_ne n]; exact h
def Purse (H : Hp) (p : Addr) (hi : Nat) : Prop := ∃ m f c : Int, H p = some (.lst [.int m, .int f, .int c]) ∧ 0 ≤ m ∧ m < PM ∧ 0 ≤ f ∧ 0 ≤ c ∧ c ≤ (hi : Int)
theorem Purse.same {H H' : Hp} {p : Addr} {hi : Nat} (h : Purse H p hi) (s : Same H H') : Purse H' p hi := by
  obtain ⟨m, f, c, h1, h2⟩ := h
  exact ⟨m, f, c, s _ _ h1, h2⟩
theorem Purse.wide {H : Hp} {p : Addr} {hi hi' : Nat} (h : Purse H p hi) (b : hi ≤ hi') : Purse H p hi' := by
  obtain ⟨m, f, c, h1, h2, h3, h4, h5, h6⟩ := h
  exact ⟨m, f, c, h1, h2, h3, h4, h5, by omega⟩
theorem Purse.upd {H : Hp} {p b : Addr} {hi : Nat} {o : HO} (h : Purse H p hi) (n : b ≠ p) : Purse (upd H b o) p hi := by
  obtain ⟨m, f, c, h1, h2⟩ := h
  exact ⟨m, f, c, by rw [upd_ne (Ne.symm n)]; exact h1, h2⟩
theorem Purse.ne {H : Hp} {p t : Addr} {hi : Nat} {o : HO} (h : Purse H p hi) (ht : H t = some o) (hl : ∀ a b c, o ≠ .lst [.int a, .int b, .int c]) : t ≠ p := by
  rintro rfl
  obtain ⟨m, f, c, h1, _⟩ := h
  rw [h1] at ht
  injection ht with ht
  exact hl _ _ _ ht.symm
theorem Kept.tup {p t : Addr} {H H' : Hp} {hi : Nat} {xs : List V} (k : Kept p H H') (h : Purse H p hi) (ht : H t = some (.tup xs)) : H' t = some (.tup xs) := k _ _ (h.ne ht (fun _ _ _ e => by cases e)) ht
theorem Kept.keepT {p : Addr} {H H' : Hp} {hi : Nat} (k : Kept p H H') (h : Purse H p hi) : KeepT H H' := fun b o hb ho => k b o (h.ne hb (fun _ _ _ e => by rw [e] at ho; cases ho)) hb
def spDraw : Sp := fun vs H Q _ => ∃ (p : Addr) (hi : Nat) (n : Int), vs = [.ref p, .int n] ∧ Purse H p hi ∧ hi ≤ 100000 ∧ 0 < n ∧ n ≤ 10 ^ 9 ∧ ∀ (d : Int) H', 0 ≤ d → d < n → Kept p H H' → Purse H' p (hi + 1) → Q (.int d) H'
section
variable {P : Program} {w : World} {K : PySem.W.Frag} {mg : Str → Option Value} {base : Heap}
theorem scCell : FnScope ["_law_cells", "_law_spot", "_law_state", "_law_cell_here"] ["_law_cells", "_law_spot"] (defScope sCell) := ⟨rfl, rfl, rfl, by decide +kernel, rfl, by decide +kernel, by decide +kernel⟩
theorem scSource : FnScope ["_law_cell_here"] ["_law_cell_here"] (defScope sSource) := ⟨rfl, rfl, rfl, by decide +kernel, rfl, by decide +kernel, by decide +kernel⟩
theorem scDraw : FnScope ["_law_source_here", "_law_many", "_law_digit", "_law_state", "_law_mixed"] ["_law_source_here", "_law_many"] (defScope sDraw) := ⟨rfl, rfl, rfl, by decide +kernel, rfl, by decide +kernel, by decide +kernel⟩
theorem modPM (x : Int) : 0 ≤ x % 2147483629 ∧ x % 2147483629 < PM := ⟨Int.emod_nonneg _ (by decide), Int.emod_lt_of_pos _ (by decide)⟩
theorem ok_source {f : Addr} {fd : FuncData} (F : Fun K "_law_source" "_law_source" sSource f fd) (B : BN mg) : FnOk P w K mg base CX0 1 f fd ["_law_cell_here"] spSource := by
  refine F.ok scSource (fun vs H Q E h => ?_) (fun cdv A outer s H vs Q E hr h => ?_)
  · obtain ⟨z, rfl, _⟩ := h
    rfl
  · obtain ⟨z, rfl, k⟩ := h
    refine ⟨_, pss_one (ps_ret (pe_lst (pa_cons (pe_op op_mod (pe_callTy call_int1 (by rfl) B.int (by decide +kernel) (pa_cons (pv 0) pa_nil)) pe_int)
      (pa_cons (pe_ifExp (PW.pt (pw_or (pt_cmpR op_lt (pv 0) pe_int (nomark _)) (pw_or1 (pt_cmpR op_ge (pv 0) (pe_op op_pow pe_int pe_int) (nomark _))))) (pe_callB call_abs (by rfl) B.abs (by decide +kernel) (pa_cons (pv 0) pa_nil)) pe_int)
      (pa_cons pe_int pa_nil))))), ?_⟩
    refine ⟨_, rfl, .inl ⟨_, rfl, _, _, rfl, rfl, (by show (0 : Int) < 2147483629; decide), ?_⟩⟩
    refine ⟨_, rfl, _, _, rfl, rfl, _, rfl, ite2 (fun h => ?_) fun h => ?_⟩
    · refine iteT ⟨_, rfl, _, rfl, by show 3 ≤ sizeLine; decide, fun p np => ?_⟩
      exact k p _ _ np (modPM z).1 (modPM z).2 (by split <;> omega)
    · refine ⟨_, rfl, _, _, rfl, rfl, ⟨by decide, by decide, by decide⟩, _, _, rfl, rfl, _, rfl, ite2 (fun h' => ?_) fun h' => ?_⟩
      · exact ⟨_, rfl, _, rfl, by show 3 ≤ sizeLine; decide, fun p np => k p _ _ np (modPM z).1 (modPM z).2 (by split <;> omega)⟩
      · exact ⟨by show 3 ≤ sizeLine; decide, fun p np => k p _ _ np (modPM z).1 (modPM z).2 (by decide)⟩
theorem ok_draw {f : Addr} {fd : FuncData} (F : Fun K "_law_draw" "_law_draw" sDraw f fd) (B : BN mg) : FnOk P w K mg base CX0 1 f fd ["_law_source_here", "_law_many"] spDraw := by
  refine F.ok scDraw (fun vs H Q E h => ?_) (fun cdv A outer s H vs Q E hr h => ?_)
  · obtain ⟨p, hi, n, rfl, _⟩ := h
    rfl
  · obtain ⟨p, hi, n, rfl, ⟨m, f, c, hp, hm, hm2, hf, hc, hc2⟩, hhi, hn, hn2, k⟩ := h
    have nd := scDraw.nd
    refine ⟨_, pss_cons (ps_asg (pe_op op_add (pe_ix ix_list (pv 0) pe_int (fun _ _ => rfl)) pe_int) (pg_sub (pv 0) pe_int set_list))
      (pss_cons (ps_asg (pe_op op_mod (pe_callTy call_int1 (by rfl) B.int (by decide +kernel) (pa_cons (pe_op op_add (pe_op op_add (pe_op op_mul (pe_ix ix_list (pv 0) pe_int (fun _ _ => rfl)) pe_int) (pe_op op_mul (pe_ix ix_list (pv 0) pe_int (fun _ _ => rfl)) pe_int)) pe_int) pa_nil)) pe_int) (pg_sub (pv 0) pe_int set_list))
      (pss_cons (ps_if (pt_cmpR op_gt (pe_ix ix_list (pv 0) pe_int (fun _ _ => rfl)) pe_int (nomark _))
          (pss_cons (ps_asg (pe_callB call_divmod (by rfl) B.divmod (by decide +kernel) (pa_cons (pe_ix ix_list (pv 0) pe_int (fun _ _ => rfl)) (pa_cons (pv 1) pa_nil))) (pg_tup rfl (pgs_cons (pg_sub (pv 0) pe_int set_list) (pgs_cons (pg_name (i := 2) nd rfl (Or.inl rfl)) pgs_nil))))
          (pss_one (ps_ret (pv 2)))) pss_nil)
      (pss_cons (ps_set (i := 3) nd rfl (Or.inl rfl) (pe_callTy call_int1 (by rfl) B.int (by decide +kernel) (pa_cons (pe_ix ix_list (pv 0) pe_int (fun _ _ => rfl)) pa_nil)))
      (pss_cons (ps_set (i := 4) nd rfl (Or.inl rfl) (pe_op op_mod (pe_callTy call_int1 (by rfl) B.int (by decide +kernel) (pa_cons (pe_op op_add (pe_op op_add (pe_op op_mul (pv 3) (pv 3)) (pe_op op_mul pe_int (pv 3))) (pe_ix ix_list (pv 0) pe_int (fun _ _ => rfl))) pa_nil)) pe_int))
      (pss_one (ps_ret (pe_op op_mod (pe_callTy call_int1 (by rfl) B.int (by decide +kernel) (pa_cons (pe_op op_fdiv (pv 4) pe_int) pa_nil)) (pv 1)))))))), ?_⟩
    refine ⟨_, rfl, p, _, _, _, rfl, rfl, SqL.of hp, rfl, _, _, rfl, rfl, _, rfl, p, _, _, 2, rfl, rfl, hp, rfl, ?_⟩
    have h1 : (upd H p (.lst [.int m, .int f, .int (c + 1)])) p = some (.lst [.int m, .int f, .int (c + 1)]) := upd_same
    have hb : (-(2 ^ 64 : Int)) < m ∧ m < 2 ^ 64 := by constructor <;> (have : PM = 2147483629 := rfl; omega)
    have hcb : (-(2 ^ 64 : Int)) < c + 1 ∧ c + 1 < 2 ^ 64 := by constructor <;> omega
    have hx := modPM (m * 48271 + (c + 1) * 2099 + 97)
    refine ⟨_, rfl, p, _, _, _, rfl, rfl, SqL.of h1, rfl, _, _, rfl, rfl, .inl hb, _, rfl, p, _, _, _, rfl, rfl, SqL.of h1, rfl, _, _, rfl, rfl, .inl hcb, _, _, rfl, rfl, _, _, rfl, rfl, .inl ⟨_, rfl, _, _, rfl, rfl, (by show (0 : Int) < 2147483629; decide), _, rfl, p, _, _, 0, rfl, rfl, h1, rfl, ?_⟩⟩
    have k1 := (kept_upd p H (.lst [.int m, .int f, .int (c + 1)])).trans (kept_upd p _ (.lst [.int ((m * 48271 + (c + 1) * 2099 + 97) % 2147483629), .int f, .int (c + 1)]))
    have h2 : (upd (upd H p (.lst [.int m, .int f, .int (c + 1)])) p (.lst [.int ((m * 48271 + (c + 1) * 2099 + 97) % 2147483629), .int f, .int (c + 1)])) p = some (.lst [.int ((m * 48271 + (c + 1) * 2099 + 97) % 2147483629), .int f, .int (c + 1)]) := upd_same
    refine ⟨_, rfl, p, _, _, _, rfl, rfl, SqL.of h2, rfl, _, _, rfl, rfl, _, rfl, ite2 (fun hg => ?_) fun hg => ?_⟩
    · refine ⟨_, rfl, p, _, _, _, rfl, rfl, SqL.of h2, rfl, _, rfl, _, _, rfl, ⟨hn, by omega⟩, fun t nt => ?_⟩
      have tp : p ≠ t := fun e => by subst e; have := nt.symm.trans h2; cases this
      have h3 : ∀ o : HO, upd (upd (upd H p (.lst [.int m, .int f, .int (c + 1)])) p (.lst [.int ((m * 48271 + (c + 1) * 2099 + 97) % 2147483629), .int f, .int (c + 1)])) t o p = some (.lst [.int ((m * 48271 + (c + 1) * 2099 + 97) % 2147483629), .int f, .int (c + 1)]) := fun o => (upd_ne tp).trans h2
      refine ⟨t, _, rfl, SqT.of upd_same, rfl, _, _, rfl, ⟨_, rfl, p, _, _, 1, rfl, rfl, h3 _, rfl, _, _, rfl, rfl, ?_⟩⟩
      refine ⟨_, rfl, ?_⟩
      exact k _ _ (Int.emod_nonneg _ (by omega)) (Int.emod_lt_of_pos _ hn) ((k1.trans (Same.kept (same_new nt))).trans (kept_upd p _ _)) ⟨_, f / n, c + 1, upd_same, hx.1, hx.2, Int.ediv_nonneg hf (by omega), by omega, by omega⟩
    · refine ⟨_, rfl, p, _, _, _, rfl, rfl, SqL.of h2, rfl, .inl ⟨_, rfl, ?_⟩⟩
      have hbM : (-(2 ^ 64 : Int)) < (m * 48271 + (c + 1) * 2099 + 97) % 2147483629 ∧ (m * 48271 + (c + 1) * 2099 + 97) % 2147483629 < 2 ^ 64 := by constructor <;> (have : PM = 2147483629 := rfl; omega)
      refine ⟨_, rfl, _, rfl, _, _, rfl, rfl, .inl hbM, _, rfl, _, _, rfl, rfl, .inl ⟨by decide, by decide⟩, _, _, rfl, rfl, _, rfl, p, _, _, _, rfl, rfl, SqL.of h2, rfl, _, _, rfl, rfl, .inl ⟨_, rfl, _, _, rfl, rfl, (by show (0 : Int) < 2147483587; decide), ?_⟩⟩
      refine ⟨_, rfl, _, _, rfl, rfl, ⟨by decide, by decide⟩, .inl ⟨_, rfl, _, rfl, _, _, rfl, rfl, hn, ?_⟩⟩
      exact k _ _ (Int.emod_nonneg _ (by omega)) (Int.emod_lt_of_pos _ hn) k1 ⟨_, f, c + 1, h2, hx.1, hx.2, hf, by omega, by omega⟩
end
end L2.EH
end S_Q13
section S_Z5
set_option maxRecDepth 100000
set_option maxHeartbeats 4000000
namespace L2.EH
open PySem PySem.Spec PyProof.Rows StX
/-! ### over a list or a tuple; comprehensions within comprehensions -/
def ItSq (t : Bool) (K : PySem.W.Frag) (a : Addr) : It := match t with
  | true => Itt K a
  | false => Itl K a
def iSeq (K : PySem.W.Frag) (tl : TE) : TI := fun σ H R => tl σ H fun x H1 => ∃ (a : Addr) (t : Bool), x = .ref a ∧ (∃ xs, SqK t K H1 a xs) ∧ R (ItSq t K a) H1
section
variable {X : Cx} {tg : Expr}
theorem pi_seq {l : Expr} {tl : TE} (hl : PE X l tl) : PI X tg l (iSeq X.K tl) := by
  refine ⟨fun pins s σ H R I h => ?_⟩
  refine thn (hl.run pins s σ H _ I h) fun v s1 ⟨x, H1, I1, r1, q1⟩ => ?_
  obtain ⟨a, t, e, ⟨xs, hq⟩, q⟩ := q1
  subst e
  cases r1
  cases t with
  | false =>
    obtain ⟨its, rv, p, hz⟩ := I1.list hq
    refine wpAny_pyIter_list p.isList ?_
    refine ⟨s1.heap.objs.size, [s1.heap.objs.size], _, _, H1, rfl, I1.kept (t' := s1.toks) fun b o e => Heap.get?_push_of_some _ e, turn_list a _, ⟨_, Heap.get?_push_size _ rfl, rfl, rfl⟩, fun b hb => ?_, q⟩
    have e : b = s1.heap.objs.size := by simpa using hb
    subst e
    exact I1.fpOk (Nat.le_refl _) (I1.hok.fresh (Nat.le_refl _))
  | true =>
    obtain ⟨its, rv, p, hz⟩ := I1.tuple hq
    refine wpAny_pyIter_tuple (show s1.heap.IsTuple a its.toArray from p) ?_
    refine ⟨s1.heap.objs.size, [s1.heap.objs.size], _, _, H1, rfl, I1.kept (t' := s1.toks) fun b o e => Heap.get?_push_of_some _ e, turn_tuple a _, ⟨_, Heap.get?_push_size _ rfl, rfl, rfl⟩, fun b hb => ?_, q⟩
    have e : b = s1.heap.objs.size := by simpa using hb
    subst e
    exact I1.fpOk (Nat.le_refl _) (I1.hok.fresh (Nat.le_refl _))
end
/-! the same rules with the written part by its own name: for elements of comprehensions -/
section
variable {X : Cx} {K : PySem.W.Frag} {tg : Expr}
def rLenK (K : PySem.W.Frag) : List V → Hp → VK → Prop := fun xs H Q => ∃ x n, xs = [x] ∧ LenV K x H n ∧ Q (V.int (n : Nat)) H
theorem call_lenK (e : X.K = K) : CallR X (.builtin "len") (rLenK K) := by subst e; exact call_len
theorem cr_sumK (e : X.K = K) (hc : X.calm = true) : CallR X (.builtin "sum") (rSum K) := by subst e; exact cr_sum hc
theorem cr_allK (e : X.K = K) (hc : X.calm = true) : CallR X (.builtin "all") (rAll K) := by subst e; exact cr_all hc
def rTupOf (K : PySem.W.Frag) : List V → Hp → VK → Prop := fun xs H Q => ∃ p ys, xs = [.ref p] ∧ ((SqL K H p ys ∧ ∀ l, H l = none → Q (.ref l) (upd H l (.tup ys))) ∨ (SqT K H p ys ∧ Q (.ref p) H))
theorem call_tupleK (e : X.K = K) : CallR X (.type "tuple") (rTupOf K) := by subst e; exact call_tuple_of
theorem ix_seqK (e : X.K = K) : IxR X (rIx K) := by subst e; exact ix_seq
theorem op_inK (e : X.K = K) : OpR X (compareOp .In) (rIn K false) := by subst e; exact op_in_seq
theorem pi_seqK (e : X.K = K) {l : Expr} {tl : TE} (hl : PE X l tl) : PI X tg l (iSeq K tl) := by subst e; exact pi_seq hl
theorem pi_tupK (e : X.K = K) {l : Expr} {tl : TE} (hl : PE X l tl) : PI X tg l (iTup K tl) := by subst e; exact pi_tup hl
theorem pi_listK (e : X.K = K) {l : Expr} {tl : TE} (hl : PE X l tl) : PI X tg l (iList K tl) := by subst e; exact pi_list hl
end
theorem walk_sq {t : Bool} {K : PySem.W.Frag} {a : Addr} {xs : List V} : Walk (ItSq t K a) xs.length (fun H => SqK t K H a xs) (fun i H x H' => H' = H ∧ xs[i]? = some x) := by
  cases t
  · exact walk_list
  · exact walk_tup
def lcScope : Expr → Scope
  | .ListComp _ _ s _ => s
  | _ => { kind := .function, names := [], isGenerator := false, isCoroutine := false }
def retE : Stmt → Expr
  | .Return (some e) _ => e
  | _ => .Constant .none 0 ⟨0, 0, 0, 0⟩
def bodyAt (s : Stmt) (i : Nat) : Stmt := (defBody s).getD i (.Pass ⟨0, 0, 0, 0⟩)
def scIn (sc1 sc0 : Scope) : Scope := relabel sc1 (envOfC "" sc0 0 0 .none)
theorem SqK.ofL {K : PySem.W.Frag} {H : Hp} {a : Addr} {xs : List V} (h : H a = some (.lst xs)) : SqK false K H a xs := SqL.of h
theorem SqK.ofT {K : PySem.W.Frag} {H : Hp} {a : Addr} {xs : List V} (h : SqT K H a xs) : SqK true K H a xs := h
theorem lenV_sq {t : Bool} {K : PySem.W.Frag} {H : Hp} {a : Addr} {xs : List V} (h : SqK t K H a xs) : LenV K (.ref a) H xs.length := by
  cases t
  · exact .inl ⟨_, h, rfl⟩
  · exact .inr ⟨_, h, rfl⟩
theorem SqK.ix {t : Bool} {K : PySem.W.Frag} {H : Hp} {a : Addr} {xs : List V} (h : SqK t K H a xs) {i : Int} {v : V} (e : atI xs i = some v) {Q : VK} (q : Q v H) : rIx K (.ref a) (.int i) H Q := by
  cases t
  · exact .inl ⟨a, xs, i, v, rfl, rfl, h, e, q⟩
  · exact .inr (.inl ⟨a, xs, i, v, rfl, rfl, h, e, q⟩)
end L2.EH
end S_Z5
section S_Q14
set_option exponentiation.threshold 2000
set_option maxRecDepth 100000
set_option maxHeartbeats 4000000
namespace L2.EH
open PySem PySem.Spec PyProof.Rows StX
/-! ### _law_image: a matrix times a column -/
def imageOf (M : List (List Int)) (ws : List Int) : List Int := M.map fun r => dotp r ws
def SeqsAt (K : PySem.W.Frag) (H : Hp) (xs : List V) (M : List (List Int)) : Prop := xs.length = M.length ∧ ∀ (i : Nat) x r, xs[i]? = some x → M[i]? = some r → ∃ (c : Addr) (t : Bool), x = .ref c ∧ SqK t K H c (r.map V.int)
theorem SeqsAt.same {K : PySem.W.Frag} {H H' : Hp} {xs : List V} {M : List (List Int)} (s : Same H H') (h : SeqsAt K H xs M) : SeqsAt K H' xs M :=
  ⟨h.1, fun i x r e1 e2 => by obtain ⟨c, t, q1, q2⟩ := h.2 i x r e1 e2; exact ⟨c, t, q1, q2.same s⟩⟩
def spImage (K : PySem.W.Frag) : Sp := fun vs H Q _ => ∃ (a b : Addr) (t t3 : Bool) (xs : List V) (M : List (List Int)) (ws : List Int) (n m : Nat), vs = [.ref a, .ref b] ∧ SqK t K H a xs ∧ SeqsAt K H xs M ∧ SqK t3 K H b (ws.map V.int) ∧ M.length ≤ 900 ∧ ws.length ≤ 900 ∧
  (∀ r, r ∈ M → r.length = ws.length ∧ ∀ z, z ∈ r → z.natAbs < 2 ^ n) ∧ (∀ z, z ∈ ws → z.natAbs < 2 ^ m) ∧ 0 < n ∧ 0 < m ∧ n + m ≤ 1000000 ∧ ∀ H' p, Same H H' → H p = none → H' p = some (.lst ((imageOf M ws).map V.int)) → Q (.ref p) H'
theorem scImage : FnScope ["_law_rows", "_law_worths", "_law_row_here", "_law_j"] ["_law_rows", "_law_worths"] (defScope sImage) := ⟨rfl, rfl, rfl, by decide +kernel, rfl, by decide +kernel, by decide +kernel⟩
section
variable {P : Program} {w : World} {K : PySem.W.Frag} {mg : Str → Option Value} {base : Heap}
theorem ok_image {f : Addr} {fd : FuncData} (F : Fun K "_law_image" "_law_image" sImage f fd) (B : BN mg) : FnOk P w K mg base CX0 1 f fd ["_law_rows", "_law_worths"] (spImage K) := by
  refine F.ok scImage (fun vs H Q E h => ?_) (fun cdv A outer s H vs Q E hr h => ?_)
  · obtain ⟨a, b, t, t3, xs, M, ws, n, m, rfl, _⟩ := h
    rfl
  · obtain ⟨a, b, t, t3, xs, M, ws, n, m, rfl, ha, hM, hb, hMl, hwl, hr1, hw1, n0, m0, hnm, k⟩ := h
    have nd := scImage.nd
    refine ⟨_, pss_one (ps_ret (pe_lc (own := [("_law_row_here", 2)]) (g := gName 2) (tt := tYes) rfl nd (pi_seq (pv 0)) (blkOk_by (own := [("_law_row_here", 2)]) (N := ["_law_rows", "_law_worths", "_law_row_here", "_law_j"]) (sc := defScope sImage) (by decide +kernel))
        (fun _ _ _ _ _ => pg_name (i := 2) nd rfl (Or.inr rfl) (Or.inl rfl)) (fun _ _ _ _ _ => pts_nil)
        (fun _ _ _ _ _ => pe_callB (cr_sumK (K := K) rfl rfl) (by rfl) B.sum (by decide +kernel) (pa_cons (pe_lc (own := [("_law_j", 3)]) (g := gName 3) (tt := tYes) rfl nd (pi_range1 (by rfl) B.range (pa_cons (pe_callB (call_lenK (K := K) rfl) (by rfl) B.len boot_len (pa_cons (pv 1) pa_nil)) pa_nil)) (blkOk_by (own := [("_law_j", 3)]) (N := ["_law_rows", "_law_worths", "_law_row_here", "_law_j"]) (sc := scIn (lcScope (retE (bodyAt sImage 0))) (defScope sImage)) (by decide +kernel))
          (fun _ _ _ _ _ => pg_name (i := 3) nd rfl (Or.inl rfl) (Or.inr rfl)) (fun _ _ _ _ _ => pts_nil)
          (fun _ _ _ _ _ => pe_op op_mulW (pe_ix (ix_seqK (K := K) rfl) (pv 2) (pv 3) (fun _ _ => rfl)) (pe_ix (ix_seqK (K := K) rfl) (pv 1) (pv 3) (fun _ _ => rfl)))) pa_nil)))), ?_⟩
    refine ⟨_, rfl, a, t, rfl, ⟨_, ha⟩, fun D nD => ?_⟩
    refine lc_out (walk_sq (t := t) (xs := xs)) (fun i Hc => Grow H D (((imageOf M ws).take i).map V.int) Hc) (Grow.start nD) (fun i Hc _ g => ha.same g.s) ?_ ?_
    · rintro i x Hc _ hi g ⟨rfl, hx'⟩
      have hiM : i < M.length := by rw [← hM.1]; exact hi
      have er : M[i]? = some M[i] := List.getElem?_eq_getElem hiM
      obtain ⟨c, t2, rfl, hc⟩ := hM.2 i x _ hx' er
      have hcc := hc.same g.s
      have hbc := hb.same g.s
      obtain ⟨hrl, hrz⟩ := hr1 _ (List.getElem_mem hiM)
      have el : (ws.map V.int).length = ws.length := by simp
      refine ⟨rfl, _, rfl, _, _, rfl, lenV_sq hbc, _, rfl, by omega, by rw [el]; omega, fun D2 nD2 => ?_⟩
      have en : (((ws.map V.int).length : Nat) : Int).toNat = ws.length := by rw [el]; omega
      rw [en]
      refine lc_out walk_range (fun j Hd => Grow _ D2 (((List.zipWith (· * ·) M[i] ws).take j).map V.int) Hd) (Grow.start nD2) (fun _ _ _ _ => trivial) ?_ ?_
      · rintro j y H1 Hd hj g2 ⟨rfl, rfl⟩
        have eI : ((0 : Int) + (j : Nat)) = (j : Int) := by omega
        show gName 3 (V.int (0 + (j : Nat))) _ _ _
        rw [eI]
        have hjr : j < M[i].length := by omega
        have e1 : (M[i].map V.int)[j]? = some (V.int M[i][j]) := by rw [List.getElem?_map, List.getElem?_eq_getElem hjr]; rfl
        have e2 : (ws.map V.int)[j]? = some (V.int ws[j]) := by rw [List.getElem?_map, List.getElem?_eq_getElem hj]; rfl
        have gz : (List.zipWith (· * ·) M[i] ws)[j]? = some (M[i][j] * ws[j]) := by rw [List.getElem?_zipWith, List.getElem?_eq_getElem hjr, List.getElem?_eq_getElem hj]
        refine ⟨rfl, _, rfl, _, rfl, (hcc.same g2.s).ix (atI_nat e1) ⟨_, rfl, _, rfl, (hbc.same g2.s).ix (atI_nat e2) ⟨_, _, rfl, rfl, wide_mul (hrz _ (List.getElem_mem hjr)) (hw1 _ (List.getElem_mem hj)) n0 m0 hnm, _, g2.d, small1000 (by simp; omega), ?_⟩⟩⟩
        have := g2.step nD2 (V.int (M[i][j] * ws[j]))
        rw [take_snoc' _ j _ gz, List.map_append]
        exact this
      intro Hd g2
      rw [List.take_of_length_le (by simp; omega)] at g2
      refine ⟨D2, _, rfl, SqL.of g2.d, _, (g.same g2.s).d, small1000 (by simp [imageOf]; omega), ?_⟩
      have gz : (imageOf M ws)[i]? = some (dotp M[i] ws) := by unfold imageOf; rw [List.getElem?_map, er]; rfl
      have := (g.same g2.s).step nD (V.int (dotp M[i] ws))
      rw [take_snoc' _ i _ gz, List.map_append]
      exact this
    · intro Hc g
      rw [List.take_of_length_le (by have := hM.1; simp [imageOf]; omega)] at g
      exact k _ D g.s nD g.d
end
end L2.EH
end S_Q14
section S_Q15
set_option exponentiation.threshold 2000
set_option maxRecDepth 100000
set_option maxHeartbeats 4000000
namespace L2.EH
open PySem PySem.Spec PyProof.Rows StX
def All01 (ds : List Int) : Prop := ∀ d, d ∈ ds → d = 0 ∨ d = 1
def spDigits : Sp := fun vs H Q _ => ∃ n : Int, vs = [.int n] ∧ 0 ≤ n ∧ n < 2 ^ 20 ∧ ∀ H' p ds, Same H H' → H p = none → H' p = some (.lst (ds.map V.int)) → All01 ds → ds.length ≤ 20 → Q (.ref p) H'
theorem scDigits : FnScope ["_law_at_here", "_law_found", "_law_left"] ["_law_at_here"] (defScope sDigits) := ⟨rfl, rfl, rfl, by decide +kernel, rfl, by decide +kernel, by decide +kernel⟩
section
variable {P : Program} {w : World} {K : PySem.W.Frag} {mg : Str → Option Value} {base : Heap}
theorem ok_digits {f : Addr} {fd : FuncData} (F : Fun K "_law_digits" "_law_digits" sDigits f fd) (B : BN mg) : FnOk P w K mg base CX0 1 f fd ["_law_at_here"] spDigits := by
  refine F.ok scDigits (fun vs H Q E h => ?_) (fun cdv A outer s H vs Q E hr h => ?_)
  · obtain ⟨n, rfl, _⟩ := h
    rfl
  · obtain ⟨n, rfl, hn, hn2, k⟩ := h
    have nd := scDigits.nd
    refine ⟨_, pss_cons (ps_par (i := 1) (j := 2) (by rfl) nd rfl rfl (by decide) rfl rfl (pa_cons (pe_lst pa_nil) (pa_cons (pv 0) pa_nil)) (by rfl))
      (pss_cons (ps_while PassesOwn.never (pt_cmpR op_gt (pv 2) pe_int (nomark _))
        (pss_cons (ps_expr (pe_bm PySem.F.plainAttrs_list PySem.F.slot_list_append PySem.F.type_list_append mt_append (pv 1) (pa_cons (pe_op op_mod (pe_callTy call_int1 (by rfl) B.int (by decide +kernel) (pa_cons (pv 2) pa_nil)) pe_int) pa_nil)))
        (pss_one (ps_set (i := 2) nd rfl (Or.inl rfl) (pe_op op_fdiv (pv 2) pe_int)))))
      (pss_one (ps_ret (pe_revL (pv 1))))), ?_⟩
    refine ⟨by show 0 ≤ sizeLine; decide, fun t nt => ⟨_, rfl, _, _, rfl, ?_⟩⟩
    obtain ⟨N, rfl⟩ : ∃ N : Nat, n = (N : Int) := ⟨n.toNat, by omega⟩
    have hN : N < 2 ^ 20 := by have e : (2 : Int) ^ 20 = ((2 ^ 20 : Nat) : Int) := by decide
                               omega
    refine while_by (fun σ H' => ∃ (l : Nat) (ds : List Int), σ = [some (.int (N : Int)), some (.ref t), some (.int (l : Int))] ∧ l * 2 ^ ds.length ≤ N ∧ ds.length ≤ 20 ∧ All01 ds ∧ Same H H' ∧ H' t = some (.lst (ds.map V.int)))
      (fun (σ : L2.St) _ => match σ[2]? with
        | some (some (V.int z)) => z.toNat
        | _ => 0) ⟨N, [], rfl, by simp, by simp, (fun d h => by cases h), same_new nt, upd_same⟩ ?_ ?_
    · rintro σ H' ⟨l, ds, rfl, hle, h20, h01, hs, ht⟩
      refine ⟨_, rfl, _, _, rfl, rfl, _, rfl, ?_⟩
      by_cases h0 : 0 < l
      · refine iteT' (decide_eq_true (by omega)) ?_
        have hdl : ds.length < 20 := by
          rcases Nat.lt_or_ge ds.length 20 with h' | h'
          · exact h'
          · exfalso
            have e1 : (2 : Nat) ^ 20 ≤ 2 ^ ds.length := Nat.pow_le_pow_right (by decide) h'
            have e2 : 1 * 2 ^ ds.length ≤ l * 2 ^ ds.length := Nat.mul_le_mul_right _ h0
            omega
        refine ⟨_, rfl, .inl ⟨rfl, _, SqL.of ht⟩, _, rfl, .inl ⟨_, rfl, _, _, rfl, rfl, (by show (0 : Int) < 2; decide), ?_⟩⟩
        refine ⟨t, _, _, rfl, rfl, ht, small1000 (by simp; omega), ?_⟩
        refine ⟨_, rfl, _, _, rfl, rfl, ⟨by decide, by decide⟩, ?_⟩
        have e3 : l / 2 * 2 ^ (ds.length + 1) ≤ N := by
          have : l / 2 * 2 ≤ l := Nat.div_mul_le_self l 2
          have e4 : l / 2 * 2 ^ (ds.length + 1) = (l / 2 * 2) * 2 ^ ds.length := by rw [Nat.pow_succ, Nat.mul_assoc, Nat.mul_comm 2]
          rw [e4]
          exact Nat.le_trans (Nat.mul_le_mul_right _ this) hle
        refine ⟨⟨l / 2, ds ++ [(l : Int) % 2], ?_, by simpa using e3, by simp; omega, ?_, ?_, ?_⟩, ?_⟩
        · show [some (V.int (N : Int)), some (V.ref t), some (V.int ((l : Int) / 2))] = _
          rw [show ((l : Int) / 2) = ((l / 2 : Nat) : Int) by omega]
        · intro d hd
          rcases List.mem_append.1 hd with h | h
          · exact h01 d h
          · rw [List.mem_singleton.1 h]; omega
        · intro b o hb
          rw [upd_ne (ne_of_none hb nt)]; exact hs _ _ hb
        · rw [upd_same, List.map_append]; rfl
        · show ((l : Int) / 2).toNat < (l : Int).toNat
          omega
      · refine iteF' (decide_eq_false (by omega)) ?_
        refine ⟨_, rfl, t, _, rfl, SqL.of ht, fun p np => ?_⟩
        exact k _ p ds.reverse (hs.trans (same_new np)) (hs.free np) (by rw [upd_same, List.map_reverse]) (fun d hd => h01 d (List.mem_reverse.1 hd)) (by rw [List.length_reverse]; exact h20)
    · rintro σ H' Q1 Q2 hq ⟨v, e1, a, b, e2, e3, c, e4, h⟩
      exact ⟨v, e1, a, b, e2, e3, c, e4, hq _ _ h⟩
end
end L2.EH
end S_Q15
section S_Q16
set_option exponentiation.threshold 2000
set_option maxRecDepth 100000
set_option maxHeartbeats 4000000
namespace L2.EH
open PySem PySem.Spec PyProof.Rows StX
structure LR where
  even : List (List Int)
  odd : List (List Int)
  heads : List Int
  told : List Int
def lawD (L : LR) : PyData := .tuple [rowsD L.even, rowsD L.odd, rowD L.heads, rowD L.told]
theorem lawD_tup (L : LR) : tupOnly (lawD L) = true := by
  show tupsOnly _ = true
  simp [tupsOnly, rowsD_tup, rowD_tup]
structure LRB (L : LR) (n b : Nat) : Prop where
  few : n ≤ 900
  bits : 0 < b ∧ b ≤ 1000
  e : L.even.length = n
  o : L.odd.length = n
  er : ∀ r, r ∈ L.even → r.length = n ∧ ∀ z, z ∈ r → z.natAbs < 2 ^ b
  or : ∀ r, r ∈ L.odd → r.length = n ∧ ∀ z, z ∈ r → z.natAbs < 2 ^ b
  h : L.heads.length = n ∧ ∀ z, z ∈ L.heads → z.natAbs < 2 ^ b
  t : L.told.length = n ∧ ∀ z, z ∈ L.told → z.natAbs < 2 ^ b
def halfOf (L : LR) (d : Int) : List (List Int) := if d = 0 then L.even else L.odd
def linesOf (L : LR) (ds : List Int) : List Int := ds.foldl (fun ws d => imageOf (halfOf L d) ws) L.heads
theorem linesOf_snoc (L : LR) (ds : List Int) (d : Int) : linesOf L (ds ++ [d]) = imageOf (halfOf L d) (linesOf L ds) := by
  unfold linesOf
  rw [List.foldl_append]; rfl
theorem dotp_cons (x y : Int) (a b : List Int) : dotp (x :: a) (y :: b) = x * y + dotp a b := by simp [dotp]
theorem dotp_le {n m : Nat} : ∀ (a b : List Int), (∀ z, z ∈ a → z.natAbs < 2 ^ n) → (∀ z, z ∈ b → z.natAbs < 2 ^ m) → (dotp a b).natAbs ≤ a.length * 2 ^ (n + m)
  | [], b, _, _ => by simp [dotp]
  | x :: a, [], _, _ => by simp [dotp]
  | x :: a, y :: b, ha, hb => by
    have ih := dotp_le a b (fun z h => ha z (List.mem_cons_of_mem _ h)) (fun z h => hb z (List.mem_cons_of_mem _ h))
    have h1 : (x * y).natAbs < 2 ^ (n + m) := wide_lt (ha x (List.mem_cons_self ..)) (hb y (List.mem_cons_self ..))
    rw [dotp_cons, List.length_cons, Nat.succ_mul]
    have := Int.natAbs_add_le (x * y) (dotp a b)
    omega
theorem dotp_lt {n m : Nat} {a b : List Int} (hl : a.length < 2 ^ 10) (ha : ∀ z, z ∈ a → z.natAbs < 2 ^ n) (hb : ∀ z, z ∈ b → z.natAbs < 2 ^ m) : (dotp a b).natAbs < 2 ^ (10 + n + m) := by
  have h := dotp_le a b ha hb
  have e : 2 ^ (10 + n + m) = 2 ^ 10 * 2 ^ (n + m) := by rw [Nat.add_assoc, Nat.pow_add]
  rw [e]
  exact Nat.lt_of_le_of_lt h (Nat.mul_lt_mul_of_pos_right hl (Nat.pow_pos (by decide)))
theorem LRB.half {L : LR} {n b : Nat} (h : LRB L n b) (d : Int) : (halfOf L d).length = n ∧ ∀ r, r ∈ halfOf L d → r.length = n ∧ ∀ z, z ∈ r → z.natAbs < 2 ^ b := by
  unfold halfOf
  split
  · exact ⟨h.e, h.er⟩
  · exact ⟨h.o, h.or⟩
theorem image_ok {M : List (List Int)} {ws : List Int} {n b c : Nat} (hn : n ≤ 900) (hM : M.length = n ∧ ∀ r, r ∈ M → r.length = n ∧ ∀ z, z ∈ r → z.natAbs < 2 ^ b) (hw : ws.length = n ∧ ∀ z, z ∈ ws → z.natAbs < 2 ^ c) :
    (imageOf M ws).length = n ∧ ∀ z, z ∈ imageOf M ws → z.natAbs < 2 ^ (10 + b + c) := by
  refine ⟨by simp [imageOf, hM.1], fun z hz => ?_⟩
  obtain ⟨r, hr, rfl⟩ := List.mem_map.1 hz
  have h10 : (2 : Nat) ^ 10 = 1024 := by decide
  exact dotp_lt (by rw [(hM.2 r hr).1]; omega) (hM.2 r hr).2 hw.2
theorem lines_ok {L : LR} {n b : Nat} (h : LRB L n b) : ∀ (k : Nat) (ds : List Int), ds.length = k → (linesOf L ds).length = n ∧ ∀ z, z ∈ linesOf L ds → z.natAbs < 2 ^ (b + k * (10 + b))
  | 0, ds, e => by
    have : ds = [] := by simpa using e
    subst this
    simpa [linesOf] using h.h
  | k + 1, ds, e => by
    have hne : ds ≠ [] := by intro z; rw [z] at e; simp at e
    have e2 := (List.dropLast_concat_getLast hne).symm
    rw [e2, linesOf_snoc]
    have ih := lines_ok h k ds.dropLast (by simp [e])
    have r := image_ok h.few (h.half (ds.getLast hne)) ih
    have e3 : 10 + b + (b + k * (10 + b)) = b + (k + 1) * (10 + b) := by rw [Nat.succ_mul]; omega
    rw [e3] at r
    exact r
def spLines (K : PySem.W.Frag) : Sp := fun vs H Q _ => ∃ (v : V) (L : LR) (n b : Nat) (z : Int), vs = [v, .int z] ∧ Dp K H v (lawD L) ∧ LRB L n b ∧ 0 ≤ z ∧ z < 2 ^ 20 ∧ ∀ H' p ds, Same H H' → H p = none → H' p = some (.lst ((linesOf L ds).map V.int)) → All01 ds → ds.length ≤ 20 → Q (.ref p) H'
def spAt (K : PySem.W.Frag) : Sp := fun vs H Q _ => ∃ (v : V) (L : LR) (n b : Nat) (z : Int), vs = [v, .int z] ∧ Dp K H v (lawD L) ∧ LRB L n b ∧ 0 ≤ z ∧ z < 2 ^ 20 ∧ ∀ H' ds, Same H H' → All01 ds → Q (.int (dotp L.told (linesOf L ds))) H'
theorem scLines : FnScope ["_law_some", "_law_at_here", "_law_worths", "_law_digit"] ["_law_some", "_law_at_here"] (defScope sLines) := ⟨rfl, rfl, rfl, by decide +kernel, rfl, by decide +kernel, by decide +kernel⟩
theorem scAt : FnScope ["_law_some", "_law_at_here"] ["_law_some", "_law_at_here"] (defScope sAt) := ⟨rfl, rfl, rfl, by decide +kernel, rfl, by decide +kernel, by decide +kernel⟩
/-- the four parts of a rule of the law -/
theorem law_parts {K : PySem.W.Frag} {H : Hp} {v : V} {L : LR} (h : Dp K H v (lawD L)) : ∃ s e o d t, v = .ref s ∧ SqT K H s [.ref e, .ref o, .ref d, .ref t] ∧ Dp K H (.ref e) (rowsD L.even) ∧ Dp K H (.ref o) (rowsD L.odd) ∧ SqT K H d (L.heads.map V.int) ∧ SqT K H t (L.told.map V.int) := by
  obtain ⟨s, xs, rfl, hs, hx⟩ := dp_tup h
  cases hx with
  | cons h1 r => cases r with
    | cons h2 r => cases r with
      | cons h3 r => cases r with
        | cons h4 r => cases r with
          | nil =>
            obtain ⟨e, _, rfl, _⟩ := dp_tup h1
            obtain ⟨o, _, rfl, _⟩ := dp_tup h2
            obtain ⟨d, rfl, hd⟩ := dp_row h3
            obtain ⟨t, rfl, ht⟩ := dp_row h4
            exact ⟨s, e, o, d, t, rfl, hs, h1, h2, hd, ht⟩
theorem rows_seqs {K : PySem.W.Frag} {H : Hp} {e : Addr} {M : List (List Int)} (h : Dp K H (.ref e) (rowsD M)) : ∃ xs, SqT K H e xs ∧ SeqsAt K H xs M := by
  obtain ⟨e', xs, e1, hs, hx⟩ := dp_tup h
  cases e1
  refine ⟨xs, hs, by rw [dpAll_len hx, List.length_map], fun i x r q1 q2 => ?_⟩
  obtain ⟨d, hd1, hd2⟩ := dpAll_get' hx q1
  rw [List.getElem?_map, q2] at hd1
  cases hd1
  obtain ⟨c, rfl, hc⟩ := dp_row hd2
  exact ⟨c, true, rfl, hc⟩
section
variable {P : Program} {w : World} {K : PySem.W.Frag} {mg : Str → Option Value} {base : Heap}
theorem ok_lines {f fD fI : Addr} {fd fdD fdI : FuncData} (F : Fun K "_law_lines" "_law_lines" sLines f fd) (B : BN mg) (FD : Fn' P w K mg base 1 "_law_digits" fD fdD ["_law_at_here"] spDigits) (FI : Fn' P w K mg base 1 "_law_image" fI fdI ["_law_rows", "_law_worths"] (spImage K)) :
    FnOk P w K mg base CX0 2 f fd ["_law_some", "_law_at_here"] (spLines K) := by
  refine F.ok scLines (fun vs H Q E h => ?_) (fun cdv A outer s H vs Q E hr h => ?_)
  · obtain ⟨v, L, n, b, z, rfl, _⟩ := h
    rfl
  · obtain ⟨v, L, n, b, z, rfl, hd, hB, hz, hz2, k⟩ := h
    obtain ⟨sa, e, o, d, t, rfl, hs, he, ho, hh, ht⟩ := law_parts hd
    have nd := scLines.nd
    refine ⟨_, pss_cons (ps_set (i := 2) nd rfl (Or.inl rfl) (pe_callTy call_list_of (by rfl) B.list (by decide +kernel) (pa_cons (pe_ix ix_tup (pv 0) pe_int (fun _ _ => rfl)) pa_nil)))
      (pss_cons (ps_for PassesOwn.never rfl (pi_list (pe_call FD.ok (by exact hr) (by rfl) FD.m FD.k FD.b .nil pass0 (pa_cons (pv 1) pa_nil))) (pg_name (i := 3) nd rfl (Or.inl rfl))
        (pss_one (ps_set (i := 2) nd rfl (Or.inl rfl) (pe_call FI.ok (by exact hr) (by rfl) FI.m FI.k FI.b .nil pass0 (pa_cons (pe_ix ix_tup (pv 0) (pv 3) (fun _ _ => rfl)) (pa_cons (pv 2) pa_nil))))))
      (pss_one (ps_ret (pv 2)))), ?_⟩
    refine ⟨_, rfl, sa, _, 2, .ref d, rfl, rfl, hs, rfl, d, _, rfl, .inr hh, fun l nl => ?_⟩
    have sl := same_new (o := .lst (L.heads.map V.int)) nl
    refine ⟨_, rfl, z, rfl, hz, hz2, fun H1 p ds s1 np hp h01 hlen => ?_⟩
    have s01 := sl.trans s1
    refine ⟨p, rfl, ⟨_, SqL.of hp⟩, ?_⟩
    refine for_it (walk_list (xs := ds.map V.int)) (fun i σ Hc => Same H1 Hc ∧ ∃ (q : Addr) (x : Option V), σ = [some (.ref sa), some (.int z), some (.ref q), x] ∧ H q = none ∧ Hc q = some (.lst ((linesOf L (ds.take i)).map V.int)))
      ⟨Same.refl _, l, none, rfl, nl, by rw [s1 _ _ upd_same]; rfl⟩ (fun i σ Hc _ h => SqL.of (h.1 _ _ hp)) ?_ ?_
    · rintro i x σ H0 Hc hi ⟨s2, q, y, rfl, nq, hq⟩ ⟨rfl, hx'⟩
      rw [List.getElem?_map] at hx'
      cases er : ds[i]? with
      | none => rw [er] at hx'; cases hx'
      | some dd =>
        rw [er] at hx'
        cases hx'
        have s02 := s01.trans s2
        obtain ⟨xe, hxe, hse⟩ := rows_seqs (dp_same s02 he)
        obtain ⟨xo, hxo, hso⟩ := rows_seqs (dp_same s02 ho)
        have hi2 : i < ds.length := (List.getElem?_eq_some_iff.1 er).1
        have lo := lines_ok hB i (ds.take i) (by rw [List.length_take]; omega)
        have hk : b + i * (10 + b) ≤ 22000 := by
          have := hB.bits
          have h1 : i * (10 + b) ≤ 20 * 1010 := Nat.mul_le_mul (by omega) (by omega)
          omega
        have tk := take_snoc' ds i dd er
        have hdd := h01 dd (List.mem_of_getElem? er)
        obtain ⟨c, xs, hat, hc, hss⟩ : ∃ c xs, atI [V.ref e, V.ref o, V.ref d, V.ref t] dd = some (V.ref c) ∧ SqT K Hc c xs ∧ SeqsAt K Hc xs (halfOf L dd) := by
          rcases hdd with rfl | rfl
          · exact ⟨e, xe, rfl, hxe, hse⟩
          · exact ⟨o, xo, rfl, hxo, hso⟩
        have hH := hB.half dd
        refine ⟨_, rfl, _, rfl, sa, _, dd, .ref c, rfl, rfl, same_tup s02 hs, hat, _, rfl, c, q, true, false, xs, _, _, b, b + i * (10 + b), rfl, hc, hss, SqK.ofL hq, by rw [hH.1]; exact hB.few, by rw [lo.1]; exact hB.few, fun r hr => ⟨by rw [(hH.2 r hr).1, lo.1], (hH.2 r hr).2⟩, lo.2, hB.bits.1, by have := hB.bits; omega, by have := hB.bits; omega, fun H3 p3 s3 np3 hp3 => ?_⟩
        exact ⟨s2.trans s3, p3, _, rfl, s02.free np3, by rw [hp3, tk, linesOf_snoc]⟩
    · rintro σ Hc ⟨s2, q, y, rfl, nq, hq⟩
      rw [List.length_map, List.take_length] at hq
      exact ⟨_, rfl, k Hc q ds (s01.trans s2) nq hq h01 hlen⟩
theorem ok_at {f fL fI : Addr} {fd fdL fdI : FuncData} (F : Fun K "_law_at" "_law_at" sAt f fd) (FL : Fn' P w K mg base 2 "_law_lines" fL fdL ["_law_some", "_law_at_here"] (spLines K)) (FI : Fn' P w K mg base 1 "_law_image" fI fdI ["_law_rows", "_law_worths"] (spImage K)) :
    FnOk P w K mg base CX0 3 f fd ["_law_some", "_law_at_here"] (spAt K) := by
  refine F.ok scAt (fun vs H Q E h => ?_) (fun cdv A outer s H vs Q E hr h => ?_)
  · obtain ⟨v, L, n, b, z, rfl, _⟩ := h
    rfl
  · obtain ⟨v, L, n, b, z, rfl, hd, hB, hz, hz2, k⟩ := h
    obtain ⟨sa, e, o, d, t, rfl, hs, he, ho, hh, ht⟩ := law_parts hd
    refine ⟨_, pss_one (ps_ret (pe_ix ix_list (pe_call FI.ok (by exact hr.mono (by decide)) (by rfl) FI.m FI.k FI.b .nil pass0 (pa_cons (pe_lst (pa_cons (pe_ix ix_tup (pv 0) pe_int (fun _ _ => rfl)) pa_nil)) (pa_cons (pe_call FL.ok (by exact hr) (by rfl) FL.m FL.k FL.b .nil pass0 (pa_cons (pv 0) (pa_cons (pv 1) pa_nil))) pa_nil))) pe_int (fun _ _ => rfl))), ?_⟩
    refine ⟨_, rfl, sa, _, 3, .ref t, rfl, rfl, hs, rfl, by show 1 ≤ sizeLine; decide, fun l nl => ?_⟩
    have sl := same_new (o := .lst [V.ref t]) nl
    have hl : (upd H l (.lst [V.ref t])) l = some (.lst [V.ref t]) := upd_same
    refine ⟨_, rfl, _, rfl, .ref sa, L, n, b, z, rfl, dp_same sl hd, hB, hz, hz2, fun H1 p ds s1 np hp h01 hlen => ?_⟩
    have lo := lines_ok hB ds.length ds rfl
    have hk : b + ds.length * (10 + b) ≤ 22000 := by
      have := hB.bits
      have h1 : ds.length * (10 + b) ≤ 20 * 1010 := Nat.mul_le_mul (by omega) (by omega)
      omega
    have s01 := sl.trans s1
    refine ⟨l, p, false, false, [V.ref t], [L.told], linesOf L ds, b, b + ds.length * (10 + b), rfl, SqK.ofL (s1 _ _ hl), ⟨rfl, fun i x r q1 q2 => ?_⟩, SqK.ofL hp, by show 1 ≤ 900; decide, by rw [lo.1]; exact hB.few, fun r hr => ?_, lo.2, hB.bits.1, by have := hB.bits; omega, by have := hB.bits; omega, fun H3 p3 s3 np3 hp3 => ?_⟩
    · match i with
      | 0 => cases q1; cases q2; exact ⟨t, true, rfl, same_tup s01 ht⟩
      | i + 1 => cases q1
    · rw [List.mem_singleton.1 hr]
      exact ⟨by rw [hB.t.1, lo.1], hB.t.2⟩
    · exact ⟨p3, _, 0, _, rfl, rfl, SqL.of hp3, rfl, k H3 ds (s01.trans s3) h01⟩
end
end L2.EH
end S_Q16
section S_Q17
set_option exponentiation.threshold 2000
set_option maxRecDepth 100000
set_option maxHeartbeats 4000000
namespace L2.EH
open PySem PySem.Spec PyProof.Rows StX
def spNumber : Sp := fun vs H Q _ => ∃ (p : Addr) (hi : Nat) (n : Int), vs = [.ref p, .int n] ∧ Purse H p hi ∧ hi ≤ 100000 ∧ 0 ≤ n ∧ n ≤ 10 ^ 8 ∧ ∀ (d : Int) H', d.natAbs ≤ n.toNat → Kept p H H' → Purse H' p (hi + 1) → Q (.int d) H'
def spRow : Sp := fun vs H Q _ => ∃ (p : Addr) (hi : Nat) (k n : Int), vs = [.ref p, .int k, .int n] ∧ Purse H p hi ∧ 0 ≤ k ∧ k ≤ 900 ∧ hi + k.toNat ≤ 90000 ∧ 0 ≤ n ∧ n ≤ 10 ^ 8 ∧
  ∀ (r : List Int) H' q, (r.length : Int) = k → (∀ z, z ∈ r → z.natAbs ≤ n.toNat) → Kept p H H' → Purse H' p (hi + k.toNat) → H q = none → H' q = some (.tup (r.map V.int)) → Q (.ref q) H'
theorem scNumber : FnScope ["_law_source_here", "_law_wide"] ["_law_source_here", "_law_wide"] (defScope sNumber) := ⟨rfl, rfl, rfl, by decide +kernel, rfl, by decide +kernel, by decide +kernel⟩
theorem scRow : FnScope ["_law_source_here", "_law_many", "_law_wide", "_law_j"] ["_law_source_here", "_law_many", "_law_wide"] (defScope sRow) := ⟨rfl, rfl, rfl, by decide +kernel, rfl, by decide +kernel, by decide +kernel⟩
section
variable {P : Program} {w : World} {K : PySem.W.Frag} {mg : Str → Option Value} {base : Heap}
theorem ok_number {f fD : Addr} {fd fdD : FuncData} (F : Fun K "_law_number" "_law_number" sNumber f fd) (FD : Fn' P w K mg base 1 "_law_draw" fD fdD ["_law_source_here", "_law_many"] spDraw) :
    FnOk P w K mg base CX0 2 f fd ["_law_source_here", "_law_wide"] spNumber := by
  refine F.ok scNumber (fun vs H Q E h => ?_) (fun cdv A outer s H vs Q E hr h => ?_)
  · obtain ⟨p, hi, n, rfl, _⟩ := h
    rfl
  · obtain ⟨p, hi, n, rfl, hp, hhi, hn, hn2, k⟩ := h
    refine ⟨_, pss_one (ps_ret (pe_op op_sub (pe_call FD.ok (by exact hr) (by rfl) FD.m FD.k FD.b .nil pass0 (pa_cons (pv 0) (pa_cons (pe_op op_add (pe_op op_mul pe_int (pv 1)) pe_int) pa_nil))) (pv 1))), ?_⟩
    refine ⟨_, rfl, _, rfl, _, _, rfl, rfl, .inl ⟨by decide, by decide⟩, _, _, rfl, rfl, p, hi, 2 * n + 1, rfl, hp, hhi, by omega, by omega, fun d H' h0 h1 kp hp' => ?_⟩
    exact ⟨_, rfl, _, _, rfl, rfl, k _ H' (by omega) kp hp'⟩
theorem ok_row {f fN : Addr} {fd fdN : FuncData} (F : Fun K "_law_row" "_law_row" sRow f fd) (B : BN mg) (FN : Fn' P w K mg base 2 "_law_number" fN fdN ["_law_source_here", "_law_wide"] spNumber) :
    FnOk P w K mg base CX0 3 f fd ["_law_source_here", "_law_many", "_law_wide"] spRow := by
  refine F.ok scRow (fun vs H Q E h => ?_) (fun cdv A outer s H vs Q E hr h => ?_)
  · obtain ⟨p, hi, k, n, rfl, _⟩ := h
    rfl
  · obtain ⟨p, hi, m, n, rfl, hp, hm, hm2, hhi, hn, hn2, k⟩ := h
    have nd := scRow.nd
    refine ⟨_, pss_one (ps_ret (pe_callTy call_tuple_of (by rfl) B.tuple (by decide +kernel) (pa_cons (pe_lc (own := [("_law_j", 3)]) (g := gName 3) (tt := tYes) rfl nd (pi_range1 (by rfl) B.range (pa_cons (pv 1) pa_nil)) (blkOk_by (own := [("_law_j", 3)]) (N := ["_law_source_here", "_law_many", "_law_wide", "_law_j"]) (sc := defScope sRow) (by decide +kernel))
      (fun _ _ _ _ _ => pg_name (i := 3) nd rfl (Or.inl rfl) (Or.inr rfl)) (fun _ _ _ _ _ => pts_nil)
      (fun _ _ _ _ _ => pe_call FN.ok (by exact hr) (by rfl) FN.m FN.k FN.b .nil pass0 (pa_cons (pv 0) (pa_cons (pv 2) pa_nil)))) pa_nil))), ?_⟩
    refine ⟨_, rfl, m, rfl, by omega, by omega, fun D nD => ?_⟩
    have hDp : D ≠ p := fun e => by
      obtain ⟨_, _, _, h1, _⟩ := hp
      rw [← e, nD] at h1; cases h1
    refine lc_out walk_range (fun i Hc => Kept p H Hc ∧ Purse Hc p (hi + i) ∧ ∃ r : List Int, r.length = i ∧ (∀ z, z ∈ r → z.natAbs ≤ n.toNat) ∧ Hc D = some (.lst (r.map V.int))) ⟨Same.kept (same_new nD), hp.upd hDp, [], rfl, (fun z h => by cases h), upd_same⟩ (fun _ _ _ _ => trivial) ?_ ?_
    · rintro i x H0 Hc hi' ⟨kp, hpc, r, hrl, hrz, hD⟩ ⟨rfl, rfl⟩
      refine ⟨rfl, _, rfl, _, rfl, p, hi + i, n, rfl, hpc, by omega, hn, hn2, fun d H' hd kp' hp' => ?_⟩
      have hD' := kp' _ _ hDp hD
      refine ⟨_, hD', small1000 (by rw [List.length_map]; omega), ?_, hp'.upd hDp, r ++ [d], by simp [hrl], fun z hz => ?_, by rw [upd_same, List.map_append]; rfl⟩
      · intro b o hb ho
        rw [upd_ne (ne_of_none ho nD)]
        exact kp' b o hb (kp b o hb ho)
      · rcases List.mem_append.1 hz with h | h
        · exact hrz z h
        · rw [List.mem_singleton.1 h]; exact hd
    · rintro Hc ⟨kp, hpc, r, hrl, hrz, hD⟩
      refine ⟨D, _, rfl, .inl ⟨SqL.of hD, fun q nq => ?_⟩⟩
      have nqp : q ≠ p := fun e => by
        obtain ⟨_, _, _, h1, _⟩ := hpc
        rw [← e, nq] at h1; cases h1
      have hq0 : H q = none := by
        cases e : H q with
        | none => rfl
        | some o => rw [kp q o nqp e] at nq; cases nq
      exact k r _ q (by omega) hrz (kp.trans (Same.kept (same_new nq))) (hpc.upd nqp) hq0 upd_same
end
end L2.EH
end S_Q17
section S_Q18
set_option exponentiation.threshold 2000
set_option maxRecDepth 100000
set_option maxHeartbeats 4000000
namespace L2.EH
open PySem PySem.Spec PyProof.Rows StX
theorem ixN_nat {n j : Nat} (h : j < n) : ixN n (j : Int) = some j := by
  unfold ixN
  rw [if_pos (by omega)]
  simp [h]
theorem dotp_set : ∀ (r h : List Int) (k : Nat) (x : Int), k < r.length → dotp (r.set k x) h = dotp (r.set k 0) h + x * h.getD k 0
  | [], h, k, x, hk => by simp at hk
  | a :: r, [], k, x, hk => by simp [dotp]
  | a :: r, b :: h, 0, x, hk => by
    simp only [List.set_cons_zero, dotp_cons, List.getD_cons_zero]
    omega
  | a :: r, b :: h, k + 1, x, hk => by
    have ih := dotp_set r h k x (by simpa using hk)
    simp only [List.set_cons_succ, dotp_cons, List.getD_cons_succ, ih]
    omega
def FitsL (M : List (List Int)) (h : List Int) : Prop := ∀ (i : Nat) r z, M[i]? = some r → h[i]? = some z → dotp r h = z
def spRule (K : PySem.W.Frag) : Sp := fun vs H Q _ => ∃ (p : Addr) (hi m : Nat) (n : Int), vs = [.ref p, .int (m : Int), .int n] ∧ Purse H p hi ∧ hi ≤ 10000 ∧ 1 ≤ m ∧ m ≤ 6 ∧ 0 ≤ n ∧ n ≤ 10 ^ 6 ∧
  ∀ (L : LR) H' q, LRB L m 60 → FitsL L.even L.heads → Kept p H H' → Purse H' p (hi + 100) → H q = none → Dp K H' (.ref q) (lawD L) → Q (.ref q) H'
theorem scRule : FnScope ["_law_source_here", "_law_many", "_law_wide", "_law_spot", "_law_sign", "_law_heads", "_law_evens", "_law_head", "_law_row_here", "_law_odds", "_law_j"] ["_law_source_here", "_law_many", "_law_wide"] (defScope sRule) := ⟨rfl, rfl, rfl, by decide +kernel, rfl, by decide +kernel, by decide +kernel⟩
section
variable {P : Program} {w : World} {K : PySem.W.Frag} {mg : Str → Option Value} {base : Heap}
theorem ok_rule {f fD fR fI : Addr} {fd fdD fdR fdI : FuncData} (F : Fun K "_law_rule" "_law_rule" sRule f fd) (B : BN mg) (FD : Fn' P w K mg base 1 "_law_draw" fD fdD ["_law_source_here", "_law_many"] spDraw)
    (FR : Fn' P w K mg base 3 "_law_row" fR fdR ["_law_source_here", "_law_many", "_law_wide"] spRow) (FI : Fn' P w K mg base 1 "_law_image" fI fdI ["_law_rows", "_law_worths"] (spImage K)) :
    FnOk P w K mg base CX0 4 f fd ["_law_source_here", "_law_many", "_law_wide"] (spRule K) := by
  refine F.ok scRule (fun vs H Q E h => ?_) (fun cdv A outer s H vs Q E hr h => ?_)
  · obtain ⟨p, hi, m, n, rfl, _⟩ := h
    rfl
  · obtain ⟨p, hi, m, n, rfl, hp, hhi, hm, hm2, hn, hn2, k⟩ := h
    have nd := scRule.nd
    refine ⟨_, pss_cons (ps_par (i := 3) (j := 4) (by rfl) nd rfl rfl (by decide) rfl rfl (pa_cons (pe_call FD.ok (by exact hr.mono (by decide)) (by rfl) FD.m FD.k FD.b .nil pass0 (pa_cons (pv 0) (pa_cons (pv 1) pa_nil))) (pa_cons (pe_op op_sub pe_int (pe_op op_mul pe_int (pe_call FD.ok (by exact hr.mono (by decide)) (by rfl) FD.m FD.k FD.b .nil pass0 (pa_cons (pv 0) (pa_cons pe_int pa_nil))))) pa_nil)) (by rfl))
      (pss_cons (ps_set (i := 5) nd rfl (Or.inl rfl) (pe_callTy call_list_of (by rfl) B.list (by decide +kernel) (pa_cons (pe_call FR.ok (by exact hr) (by rfl) FR.m FR.k FR.b .nil pass0 (pa_cons (pv 0) (pa_cons (pv 1) (pa_cons (pv 2) pa_nil)))) pa_nil)))
      (pss_cons (ps_asg (pv 4) (pg_sub (pv 5) (pv 3) set_list))
      (pss_cons (ps_set (i := 6) nd rfl (Or.inl rfl) (pe_lst pa_nil))
      (pss_cons (ps_for PassesOwn.never rfl (pi_list (pv 5)) (pg_name (i := 7) nd rfl (Or.inl rfl))
        (pss_cons (ps_set (i := 8) nd rfl (Or.inl rfl) (pe_callTy call_list_of (by rfl) B.list (by decide +kernel) (pa_cons (pe_call FR.ok (by exact hr) (by rfl) FR.m FR.k FR.b .nil pass0 (pa_cons (pv 0) (pa_cons (pv 1) (pa_cons (pv 2) pa_nil)))) pa_nil)))
        (pss_cons (ps_asg pe_int (pg_sub (pv 8) (pv 3) set_list))
        (pss_cons (ps_asg (pe_op op_mulW (pv 4) (pe_op op_sub (pv 7) (pe_ix ix_list (pe_call FI.ok (by exact hr.mono (by decide)) (by rfl) FI.m FI.k FI.b .nil pass0 (pa_cons (pe_lst (pa_cons (pv 8) pa_nil)) (pa_cons (pv 5) pa_nil))) pe_int (fun _ _ => rfl)))) (pg_sub (pv 8) (pv 3) set_list))
        (pss_one (ps_expr (pe_bm PySem.F.plainAttrs_list PySem.F.slot_list_append PySem.F.type_list_append mt_append (pv 6) (pa_cons (pe_callTy call_tuple_of (by rfl) B.tuple (by decide +kernel) (pa_cons (pv 8) pa_nil)) pa_nil))))))))
      (pss_cons (ps_set (i := 9) nd rfl (Or.inl rfl) (pe_callTy call_tuple_of (by rfl) B.tuple (by decide +kernel) (pa_cons (pe_lc (own := [("_law_j", 10)]) (g := gName 10) (tt := tYes) rfl nd (pi_range1 (by rfl) B.range (pa_cons (pv 1) pa_nil)) (blkOk_by (own := [("_law_j", 10)]) (N := ["_law_source_here", "_law_many", "_law_wide", "_law_spot", "_law_sign", "_law_heads", "_law_evens", "_law_head", "_law_row_here", "_law_odds", "_law_j"]) (sc := defScope sRule) (by decide +kernel))
        (fun _ _ _ _ _ => pg_name (i := 10) nd rfl (Or.inl rfl) (Or.inr rfl)) (fun _ _ _ _ _ => pts_nil)
        (fun _ _ _ _ _ => pe_call FR.ok (by exact hr) (by rfl) FR.m FR.k FR.b .nil pass0 (pa_cons (pv 0) (pa_cons (pv 1) (pa_cons (pv 2) pa_nil))))) pa_nil)))
      (pss_one (ps_ret (pe_tup (pa_cons (pe_callTy call_tuple_of (by rfl) B.tuple (by decide +kernel) (pa_cons (pv 6) pa_nil)) (pa_cons (pv 9) (pa_cons (pe_callTy call_tuple_of (by rfl) B.tuple (by decide +kernel) (pa_cons (pv 5) pa_nil)) (pa_cons (pe_call FR.ok (by exact hr) (by rfl) FR.m FR.k FR.b .nil pass0 (pa_cons (pv 0) (pa_cons (pv 1) (pa_cons (pv 2) pa_nil)))) pa_nil)))))))))))), ?_⟩
    refine ⟨_, rfl, _, rfl, p, hi, (m : Int), rfl, hp, by omega, by omega, by omega, fun spot H1 hs0 hs1 k1 hp1 => ?_⟩
    refine ⟨_, rfl, p, hi + 1, 2, rfl, hp1, by omega, by decide, by decide, fun sg H2 hg0 hg1 k2 hp2 => ?_⟩
    refine ⟨_, _, rfl, rfl, .inl ⟨by decide, by decide⟩, _, _, rfl, rfl, _, V.int (1 - 2 * sg), rfl, ?_⟩
    generalize hsg : (1 - 2 * sg : Int) = sgn
    have hsgn : sgn = 1 ∨ sgn = -1 := by omega
    -- the heads
    refine ⟨_, rfl, _, rfl, _, rfl, p, hi + 2, (m : Int), n, rfl, hp2, by omega, by omega, by omega, hn, by omega, fun r H3 q hrl hrz k3 hp3 nq hq => ⟨q, _, rfl, .inr (SqT.of hq), fun l nl => ?_⟩⟩
    obtain ⟨kk, rfl⟩ : ∃ kk : Nat, spot = (kk : Int) := ⟨spot.toNat, by omega⟩
    have hkm : kk < m := by omega
    have hrm : r.length = m := by omega
    have l0 : (upd H3 l (.lst (r.map V.int))) l = some (.lst (r.map V.int)) := upd_same
    refine ⟨_, rfl, _, rfl, _, rfl, l, _, (kk : Int), kk, rfl, rfl, l0, ixN_nat (by rw [List.length_map]; omega), ?_⟩
    rw [← List.map_set]
    have hl3 : (upd (upd H3 l (.lst (r.map V.int))) l (.lst ((r.set kk sgn).map V.int))) l = some (.lst ((r.set kk sgn).map V.int)) := upd_same
    have k35 : ∀ b o, H3 b = some o → (upd (upd H3 l (.lst (r.map V.int))) l (.lst ((r.set kk sgn).map V.int))) b = some o := fun b o hb => by
      have := ne_of_none hb nl
      rw [upd_ne this, upd_ne this]; exact hb
    generalize (upd (upd H3 l (.lst (r.map V.int))) l (.lst ((r.set kk sgn).map V.int))) = H5 at *
    generalize hhs : r.set kk sgn = hs at *
    have h20 : (10 : Nat) ^ 6 < 2 ^ 20 := by decide
    have hnn : n.toNat ≤ 10 ^ 6 := by omega
    have hhl : hs.length = m := by rw [← hhs, List.length_set]; exact hrm
    have hhk : hs.getD kk 0 = sgn := by rw [← hhs, List.getD_eq_getElem?_getD, List.getElem?_set_self (by omega)]; rfl
    have hhz : ∀ z, z ∈ hs → z.natAbs < 2 ^ 20 := fun z hz => by
      rw [← hhs] at hz
      rcases List.mem_or_eq_of_mem_set hz with h | h
      · have := hrz z h; omega
      · rw [h]; rcases hsgn with e | e <;> rw [e] <;> decide
    have K05 : Kept p H H5 := fun b o hb ho => k35 b o (k3 b o hb (k2 b o hb (k1 b o hb ho)))
    have P5 : Purse H5 p (hi + 8) := by
      obtain ⟨a1, a2, a3, a4, a5⟩ := hp3.wide (hi' := hi + 8) (by omega)
      exact ⟨a1, a2, a3, k35 _ _ a4, a5⟩
    refine ⟨by show 0 ≤ sizeLine; decide, fun e1 ne1 => ?_⟩
    have e1p : e1 ≠ p := fun e => by obtain ⟨_, _, _, h1, _⟩ := P5; rw [← e, ne1] at h1; cases h1
    have le1 : l ≠ e1 := fun e => by rw [e, ne1] at hl3; cases hl3
    have he6 : (upd H5 e1 (.lst [])) e1 = some (.lst []) := upd_same
    have s56 := same_new (o := .lst []) ne1
    have P6 := P5.upd (o := .lst []) e1p
    generalize hH6 : upd H5 e1 (.lst []) = H6 at *
    have hl6 := s56 _ _ hl3
    have K06 : Kept p H H6 := K05.trans (Same.kept s56)
    have lp : l ≠ p := fun e => by obtain ⟨_, _, _, h1, _⟩ := hp3; rw [← e, nl] at h1; cases h1
    refine ⟨_, rfl, l, rfl, ⟨_, SqL.of hl6⟩, ?_⟩
    refine for_it (walk_list (xs := hs.map V.int)) (fun i σ Hc => ∃ acc M x7 x8, σ = [some (.ref p), some (.int (m : Int)), some (.int n), some (.int (kk : Int)), some (.int sgn), some (.ref l), some (.ref e1), x7, x8, none, none] ∧
        (∀ b o, b ≠ p → b ≠ e1 → H6 b = some o → Hc b = some o) ∧ Purse Hc p (hi + 8 + 6 * i) ∧ Hc e1 = some (.lst acc) ∧ DpAll K Hc acc (M.map rowD) ∧ M.length = i ∧ (∀ r, r ∈ M → r.length = m ∧ ∀ z, z ∈ r → z.natAbs < 2 ^ 60) ∧ FitsL M hs)
      ⟨[], [], none, none, rfl, fun b o _ _ h => h, P6, he6, .nil, rfl, (fun r h => by cases h), fun i r z h => by simp at h⟩ (fun i σ Hc _ ⟨acc, M, x7, x8, _, hk, _⟩ => SqL.of (hk _ _ lp le1 hl6)) ?_ ?_
    · rintro i x σ H0 Hc hi' ⟨acc, M, x7, x8, rfl, hk, hpc, hE, hD, hMl, hMr, hfit⟩ ⟨rfl, hx'⟩
      rw [List.length_map] at hi'
      rw [List.getElem?_map] at hx'
      cases ez : hs[i]? with
      | none => rw [ez] at hx'; cases hx'
      | some z =>
        rw [ez] at hx'
        cases hx'
        refine ⟨_, rfl, _, rfl, _, rfl, p, hi + 8 + 6 * i, (m : Int), n, rfl, hpc, by omega, by omega, by omega, hn, by omega, fun r' Ha qa hl' hz' ka hpa nqa hqa => ⟨qa, _, rfl, .inr (SqT.of hqa), fun l1 nl1 => ?_⟩⟩
        have hrm' : r'.length = m := by omega
        have l10 : (upd Ha l1 (.lst (r'.map V.int))) l1 = some (.lst (r'.map V.int)) := upd_same
        refine ⟨_, rfl, _, rfl, l1, _, (kk : Int), kk, rfl, rfl, l10, ixN_nat (by rw [List.length_map]; omega), ?_⟩
        have emap : (r'.map V.int).set kk (.int 0) = (r'.set kk 0).map V.int := (List.map_set ..).symm
        rw [emap]
        have hb2 : (upd (upd Ha l1 (.lst (r'.map V.int))) l1 (.lst ((r'.set kk 0).map V.int))) l1 = some (.lst ((r'.set kk 0).map V.int)) := upd_same
        have hb1 : ∀ b o, Ha b = some o → (upd (upd Ha l1 (.lst (r'.map V.int))) l1 (.lst ((r'.set kk 0).map V.int))) b = some o := fun b o hb => by
          have := ne_of_none hb nl1
          rw [upd_ne this, upd_ne this]; exact hb
        generalize (upd (upd Ha l1 (.lst (r'.map V.int))) l1 (.lst ((r'.set kk 0).map V.int))) = Hb at *
        have r0z : ∀ z, z ∈ r'.set kk 0 → z.natAbs < 2 ^ 20 := fun z hz => by
          rcases List.mem_or_eq_of_mem_set hz with h | h
          · have := hz' z h; omega
          · rw [h]; decide
        have hla := hb1 _ _ (ka _ _ lp (hk _ _ lp le1 hl6))
        refine ⟨_, rfl, _, rfl, _, rfl, by show 1 ≤ sizeLine; decide, fun l2 nl2 => ?_⟩
        have s2 := same_new (o := .lst [V.ref l1]) nl2
        refine ⟨_, rfl, l2, l, false, false, [V.ref l1], [r'.set kk 0], hs, 20, 20, rfl, SqK.ofL upd_same, ⟨rfl, fun j x r q1 q2 => ?_⟩, SqK.ofL (s2 _ _ hla), by show 1 ≤ 900; decide, by omega, fun r hr => ?_, hhz, by decide, by decide, by decide, fun Hd p3 s3 np3 hp3' => ?_⟩
        · match j with
          | 0 => cases q1; cases q2; exact ⟨l1, false, rfl, SqK.ofL (s2 _ _ hb2)⟩
          | j + 1 => cases q1
        · rw [List.mem_singleton.1 hr]
          exact ⟨by rw [List.length_set]; omega, r0z⟩
        have sbd := s2.trans s3
        have h10 : (2 : Nat) ^ 10 = 1024 := by decide
        have hdot : (dotp (r'.set kk 0) hs).natAbs < 2 ^ 50 := dotp_lt (n := 20) (m := 20) (by rw [List.length_set]; omega) r0z hhz
        have hzz : z.natAbs < 2 ^ 20 := hhz z (List.mem_of_getElem? ez)
        have hsub : (z - dotp (r'.set kk 0) hs).natAbs < 2 ^ 59 := by
          have e1 : (2 : Nat) ^ 20 = 1048576 := by decide
          have e2 : (2 : Nat) ^ 50 = 1125899906842624 := by decide
          have e3 : (2 : Nat) ^ 59 = 576460752303423488 := by decide
          omega
        have hsga : sgn.natAbs < 2 ^ 1 := by rcases hsgn with e | e <;> rw [e] <;> decide
        have hd1 := sbd _ _ hb2
        refine ⟨p3, _, 0, _, rfl, rfl, SqL.of hp3', rfl, _, _, rfl, rfl, _, _, rfl, rfl, wide_mul (a := 1) (b := 59) hsga hsub (by decide) (by decide) (by decide), _, rfl, _, rfl, l1, _, (kk : Int), kk, rfl, rfl, hd1, ixN_nat (by rw [List.length_map, List.length_set]; omega), ?_⟩
        have emap2 : ((r'.set kk 0).map V.int).set kk (.int (sgn * (z - dotp (r'.set kk 0) hs))) = (r'.set kk (sgn * (z - dotp (r'.set kk 0) hs))).map V.int := by rw [← List.map_set, List.set_set]
        rw [emap2]
        have hrow : dotp (r'.set kk (sgn * (z - dotp (r'.set kk 0) hs))) hs = z := by
          rw [dotp_set _ _ _ _ (by omega), hhk]
          rcases hsgn with e | e <;> rw [e] <;> omega
        have hrz2 : ∀ y, y ∈ r'.set kk (sgn * (z - dotp (r'.set kk 0) hs)) → y.natAbs < 2 ^ 60 := fun y hy => by
          rcases List.mem_or_eq_of_mem_set hy with h | h
          · have h1 := hz' y h
            have e3 : (2 : Nat) ^ 60 = 1152921504606846976 := by decide
            have e4 : (10 : Nat) ^ 6 = 1000000 := by decide
            omega
          · rw [h, Int.natAbs_mul]
            have e3 : (2 : Nat) ^ 60 = 2 * 2 ^ 59 := by decide
            rcases hsgn with e | e <;> rw [e] <;> simp <;> omega
        have hrl2 : (r'.set kk (sgn * (z - dotp (r'.set kk 0) hs))).length = m := by rw [List.length_set]; exact hrm'
        generalize r'.set kk (sgn * (z - dotp (r'.set kk 0) hs)) = rw' at *
        have he1 : (upd Hd l1 (.lst (rw'.map V.int))) l1 = some (.lst (rw'.map V.int)) := upd_same
        have hEd : Hd e1 = some (.lst acc) := sbd _ _ (hb1 _ _ (ka _ _ e1p hE))
        have e1l1 : e1 ≠ l1 := ne_of_none (ka _ _ e1p hE) nl1
        have hEe : (upd Hd l1 (.lst (rw'.map V.int))) e1 = some (.lst acc) := by rw [upd_ne e1l1]; exact hEd
        have pa : ∃ o, Ha p = some o := by obtain ⟨_, _, _, h1, _⟩ := hpa; exact ⟨_, h1⟩
        have pl1 : l1 ≠ p := fun e => by obtain ⟨o, ho⟩ := pa; rw [← e, nl1] at ho; cases ho
        have kTd : KeepT Hc Hd := (ka.keepT hpc).trans (keepT_same (fun b o hb => sbd _ _ (hb1 b o hb)))
        have kTe : KeepT Hc (upd Hd l1 (.lst (rw'.map V.int))) := kTd.trans (keepT_upd hd1 rfl)
        have Pe : Purse (upd Hd l1 (.lst (rw'.map V.int))) p (hi + 8 + 6 * i + m) := by
          obtain ⟨a1, a2, a3, a4, a5⟩ := hpa
          exact ⟨a1, a2, a3, by rw [upd_ne (Ne.symm pl1)]; exact sbd _ _ (hb1 _ _ a4), a5⟩
        have keepE : ∀ b o, b ≠ p → b ≠ e1 → H6 b = some o → (upd Hd l1 (.lst (rw'.map V.int))) b = some o := fun b o hb hbe ho => by
          have h1 := ka b o hb (hk b o hb hbe ho)
          rw [upd_ne (ne_of_none h1 nl1)]
          exact sbd _ _ (hb1 _ _ h1)
        generalize (upd Hd l1 (.lst (rw'.map V.int))) = He at *
        refine ⟨_, rfl, .inl ⟨rfl, _, SqL.of hEe⟩, _, rfl, l1, _, rfl, .inl ⟨SqL.of he1, fun q2 nq2 => ?_⟩⟩
        have s4 := same_new (o := .tup (rw'.map V.int)) nq2
        have hq2 : (upd He q2 (.tup (rw'.map V.int))) q2 = some (.tup (rw'.map V.int)) := upd_same
        generalize (upd He q2 (.tup (rw'.map V.int))) = Hf at *
        have hEf := s4 _ _ hEe
        have haccl : acc.length = i := by rw [dpAll_len hD, List.length_map, hMl]
        refine ⟨e1, acc, _, rfl, rfl, hEf, small1000 (by omega), acc ++ [.ref q2], M ++ [rw'], _, _, rfl, fun b o hb hbe ho => ?_, ((Pe.same s4).upd e1p).wide (by omega), upd_same, ?_, by simp [hMl], fun r hr => ?_, fun j r y h1 h2 => ?_⟩
        · rw [upd_ne hbe]; exact s4 _ _ (keepE b o hb hbe ho)
        · have kk2 : KeepT Hf (upd Hf e1 (.lst (acc ++ [.ref q2]))) := keepT_upd hEf rfl
          rw [List.map_append]
          refine dpAll_snoc (row_dp (SqT.of (kk2 _ _ hq2 rfl))) (dpAll_keep ((kTe.trans (keepT_same s4)).trans kk2) (tupsOnly_map rowD rowD_tup M) hD)
        · rcases List.mem_append.1 hr with h | h
          · exact hMr r h
          · rw [List.mem_singleton.1 h]; exact ⟨hrl2, hrz2⟩
        · by_cases hj : j < M.length
          · rw [List.getElem?_append_left hj] at h1
            exact hfit j r y h1 h2
          · have hj2 : j = i := by
              have := (List.getElem?_eq_some_iff.1 h1).1
              simp at this; omega
            subst hj2
            rw [List.getElem?_append_right (by omega), hMl, Nat.sub_self] at h1
            cases h1
            rw [ez] at h2
            cases h2
            exact hrow
    rintro σ Hc ⟨acc, M, x7, x8, rfl, hk, hpc, hE, hD, hMl, hMr, hfit⟩
    rw [List.length_map] at hpc hMl
    have K0c : Kept p H Hc := fun b o hb ho => hk b o hb (ne_of_none (K05 b o hb ho) ne1) (K06 b o hb ho)
    have hlc := hk _ _ lp le1 hl6
    refine ⟨_, rfl, (m : Int), rfl, by omega, by omega, fun D nD => ?_⟩
    have en : ((m : Int).toNat) = m := by omega
    rw [en]
    have hDp : D ≠ p := fun e => by obtain ⟨_, _, _, h1, _⟩ := hpc; rw [← e, nD] at h1; cases h1
    refine lc_out walk_range (fun j Hd => ∃ (accO : List V) (O : List (List Int)), Kept p Hc Hd ∧ Purse Hd p (hi + 8 + 6 * hs.length + 6 * j) ∧ Hd D = some (.lst accO) ∧ DpAll K Hd accO (O.map rowD) ∧ O.length = j ∧ (∀ r, r ∈ O → r.length = m ∧ ∀ z, z ∈ r → z.natAbs < 2 ^ 60))
      ⟨[], [], Same.kept (same_new nD), hpc.upd hDp, upd_same, .nil, rfl, fun r h => by cases h⟩ (fun _ _ _ _ => trivial) ?_ ?_
    · rintro j y H0 Hd hj ⟨accO, O, kO, pO, hO, dO, hOl, hOr⟩ ⟨rfl, rfl⟩
      refine ⟨rfl, _, rfl, _, rfl, _, rfl, p, _, (m : Int), n, rfl, pO, by omega, by omega, by omega, hn, by omega, fun r4 H4 q4 hr4 hz4 k4 hp4 nq4 hq4 => ?_⟩
      have hO' := k4 _ _ hDp hO
      have kT4 : KeepT Hd (upd H4 D (.lst (accO ++ [.ref q4]))) := (k4.keepT pO).trans (keepT_upd hO' rfl)
      have haccl : accO.length = j := by rw [dpAll_len dO, List.length_map, hOl]
      refine ⟨accO, hO', small1000 (by omega), accO ++ [.ref q4], O ++ [r4], fun b o hb ho => ?_, (hp4.upd hDp).wide (by omega), upd_same, ?_, by simp [hOl], fun r hr => ?_⟩
      · rw [upd_ne (ne_of_none ho nD)]; exact k4 b o hb (kO b o hb ho)
      · rw [List.map_append]
        exact dpAll_snoc (row_dp (SqT.of (by rw [upd_ne (fun e => by rw [e, hO'] at hq4; cases hq4)]; exact hq4))) (dpAll_keep kT4 (tupsOnly_map rowD rowD_tup O) dO)
      · rcases List.mem_append.1 hr with h | h
        · exact hOr r h
        · rw [List.mem_singleton.1 h]
          refine ⟨by omega, fun z hz => ?_⟩
          have h1 := hz4 z hz
          have e3 : (2 : Nat) ^ 60 = 1152921504606846976 := by decide
          have e4 : (10 : Nat) ^ 6 = 1000000 := by decide
          omega
    rintro Hd ⟨accO, O, kO, pO, hO, dO, hOl, hOr⟩
    refine ⟨D, _, rfl, .inl ⟨SqL.of hO, fun q1 nq1 => ?_⟩⟩
    have s1 := same_new (o := .tup accO) nq1
    have hq1 : (upd Hd q1 (.tup accO)) q1 = some (.tup accO) := upd_same
    generalize upd Hd q1 (.tup accO) = Hq at *
    have hEq := s1 _ _ (kO _ _ e1p hE)
    have hlq := s1 _ _ (kO _ _ lp hlc)
    refine ⟨_, rfl, e1, _, rfl, .inl ⟨SqL.of hEq, fun q2 nq2 => ?_⟩⟩
    have s2 := same_new (o := .tup acc) nq2
    have hq2 : (upd Hq q2 (.tup acc)) q2 = some (.tup acc) := upd_same
    generalize upd Hq q2 (.tup acc) = Hr at *
    refine ⟨_, rfl, _, rfl, l, _, rfl, .inl ⟨SqL.of (s2 _ _ hlq), fun q3 nq3 => ?_⟩⟩
    have s3 := same_new (o := .tup (hs.map V.int)) nq3
    have hq3 : (upd Hr q3 (.tup (hs.map V.int))) q3 = some (.tup (hs.map V.int)) := upd_same
    generalize upd Hr q3 (.tup (hs.map V.int)) = Ht at *
    have s13 := (s1.trans s2).trans s3
    have pT := pO.same s13
    refine ⟨_, rfl, _, rfl, _, rfl, p, _, (m : Int), n, rfl, pT, by omega, by omega, by omega, hn, by omega, fun r4 H4 q4 hr4 hz4 k4 hp4 nq4 hq4 => ⟨by show 4 ≤ sizeLine; decide, fun qf nqf => ?_⟩⟩
    have kf := same_new (o := .tup [V.ref q2, V.ref q1, V.ref q3, V.ref q4]) nqf
    have kAll : Kept p H H4 := (((K0c.trans kO).trans (Same.kept s13)).trans k4)
    have nqfp : qf ≠ p := fun e => by obtain ⟨_, _, _, h1, _⟩ := hp4; rw [← e, nqf] at h1; cases h1
    have nH : H qf = none := by
      cases e : H qf with
      | none => rfl
      | some o => rw [kAll _ _ nqfp e] at nqf; cases nqf
    have kT4 : KeepT Ht H4 := k4.keepT pT
    have kTcd : KeepT Hc Hd := kO.keepT hpc
    have hbig : ∀ z : Int, z.natAbs < 2 ^ 20 → z.natAbs < 2 ^ 60 := fun z hz => Nat.lt_of_lt_of_le hz (Nat.pow_le_pow_right (by decide) (by decide))
    have hMl' : M.length = m := by omega
    have hr4' : r4.length = m := by omega
    refine k ⟨M, O, hs, r4⟩ _ qf ⟨by omega, ⟨by decide, by decide⟩, hMl', hOl, hMr, hOr, ⟨hhl, fun z hz => hbig z (hhz z hz)⟩, ⟨hr4', fun z hz => ?_⟩⟩ hfit (kAll.trans (Same.kept kf)) ((hp4.same kf).wide (by omega)) nH ?_
    · have h1 := hz4 z hz
      have e3 : (2 : Nat) ^ 60 = 1152921504606846976 := by decide
      have e4 : (10 : Nat) ^ 6 = 1000000 := by decide
      omega
    · have kT : KeepT Ht (upd H4 qf (.tup [V.ref q2, V.ref q1, V.ref q3, V.ref q4])) := kT4.trans (keepT_same kf)
      refine .tup (SqT.of upd_same) (.cons ?_ (.cons ?_ (.cons ?_ (.cons ?_ .nil))))
      · exact dp_keep kT (rowsD_tup M) (.tup (SqT.of (s3 _ _ hq2)) (dpAll_keep (kTcd.trans (keepT_same s13)) (tupsOnly_map rowD rowD_tup M) hD))
      · exact dp_keep kT (rowsD_tup O) (.tup (SqT.of (s3 _ _ (s2 _ _ hq1))) (dpAll_same s13 dO))
      · exact dp_keep kT (rowD_tup hs) (row_dp (SqT.of hq3))
      · exact row_dp (SqT.of (kf _ _ hq4))
end
end L2.EH
end S_Q18
section S_Z6
/-! rows of rests: codes, order, count (plain Lean) -/
namespace L2.EH
theorem nodup_lt' : ∀ (w : Nat) (l : List Nat), l.Nodup → (∀ i, i ∈ l → i < w) → l.length ≤ w
  | 0, l, _, h => by
    cases l with
    | nil => simp
    | cons x l => exact absurd (h x (by simp)) (by omega)
  | w + 1, l, hn, h => by
    have h1 := nodup_lt' w (l.erase w) (hn.erase w) (fun i hi => by
      have h2 := (hn.mem_erase_iff).1 hi
      have := h i h2.2
      have := h2.1
      omega)
    have h3 : l.length ≤ (l.erase w).length + 1 := by
      rw [List.length_erase]; split <;> omega
    omega
/-- the code of a row in base b -/
def codeB (b : Int) (c : Int) (r : List Int) : Int := r.foldl (fun c z => b * c + z) c
theorem codeB_cons (b c z : Int) (r : List Int) : codeB b c (z :: r) = codeB b (b * c + z) r := rfl
theorem codeB_snoc (b c z : Int) (r : List Int) : codeB b c (r ++ [z]) = b * codeB b c r + z := by
  unfold codeB
  rw [List.foldl_append]; rfl
def InB (b : Int) (r : List Int) : Prop := ∀ z, z ∈ r → 0 ≤ z ∧ z < b
theorem step_lt {b c c' z z' : Int} (h : c < c') (hz : z < b) (hz0 : 0 ≤ z') (hb : 0 < b) : b * c + z < b * c' + z' := by
  have h1 : b * (c + 1) ≤ b * c' := Int.mul_le_mul_of_nonneg_left h (by omega)
  rw [Int.mul_add, Int.mul_one] at h1
  omega
theorem codeB_lt {b : Int} (hb : 0 < b) : ∀ (r s : List Int) (c c' : Int), r.length = s.length → InB b r → InB b s → c < c' → codeB b c r < codeB b c' s
  | [], [], c, c', _, _, _, h => h
  | z :: r, z' :: s, c, c', e, hr, hs, h => by
    rw [codeB_cons, codeB_cons]
    exact codeB_lt hb r s _ _ (by simpa using e) (fun y hy => hr y (List.mem_cons_of_mem _ hy)) (fun y hy => hs y (List.mem_cons_of_mem _ hy)) (step_lt h (hr z (List.mem_cons_self ..)).2 (hs z' (List.mem_cons_self ..)).1 hb)
theorem codeB_order {b : Int} (hb : 0 < b) : ∀ (r s : List Int) (c : Int), r.length = s.length → InB b r → InB b s → codeB b c r < codeB b c s → r < s
  | [], [], c, _, _, _, h => absurd h (Int.lt_irrefl _)
  | z :: r, z' :: s, c, e, hr, hs, h => by
    rw [codeB_cons, codeB_cons] at h
    have e' : r.length = s.length := by simpa using e
    have hr' : InB b r := fun y hy => hr y (List.mem_cons_of_mem _ hy)
    have hs' : InB b s := fun y hy => hs y (List.mem_cons_of_mem _ hy)
    rw [List.cons_lt_cons_iff]
    rcases Int.lt_trichotomy z z' with h1 | h1 | h1
    · exact .inl h1
    · subst h1
      exact .inr ⟨rfl, codeB_order hb r s _ e' hr' hs' h⟩
    · exfalso
      have := codeB_lt hb s r (b * c + z') (b * c + z) e'.symm hs' hr' (by omega)
      omega
theorem codeB_inj {b : Int} (hb : 0 < b) : ∀ (r s : List Int) (c : Int), r.length = s.length → InB b r → InB b s → codeB b c r = codeB b c s → r = s
  | [], [], c, _, _, _, _ => rfl
  | z :: r, z' :: s, c, e, hr, hs, h => by
    rw [codeB_cons, codeB_cons] at h
    have e' : r.length = s.length := by simpa using e
    have hr' : InB b r := fun y hy => hr y (List.mem_cons_of_mem _ hy)
    have hs' : InB b s := fun y hy => hs y (List.mem_cons_of_mem _ hy)
    rcases Int.lt_trichotomy z z' with h1 | h1 | h1
    · have := codeB_lt hb r s (b * c + z) (b * c + z') e' hr' hs' (by omega)
      omega
    · subst h1
      rw [codeB_inj hb r s _ e' hr' hs' h]
    · have := codeB_lt hb s r (b * c + z') (b * c + z) e'.symm hs' hr' (by omega)
      omega
theorem codeB_bound {b : Int} (hb : 0 < b) : ∀ (r : List Int) (c : Int), 0 ≤ c → InB b r → 0 ≤ codeB b c r ∧ codeB b c r < (c + 1) * b ^ r.length
  | [], c, h, _ => ⟨h, by simp [codeB]; omega⟩
  | z :: r, c, h, hr => by
    rw [codeB_cons]
    have hz := hr z (List.mem_cons_self ..)
    have h0 : 0 ≤ b * c + z := by have := Int.mul_nonneg (Int.le_of_lt hb) h; omega
    have ih := codeB_bound hb r (b * c + z) h0 (fun y hy => hr y (List.mem_cons_of_mem _ hy))
    refine ⟨ih.1, Int.lt_of_lt_of_le ih.2 ?_⟩
    rw [List.length_cons, Int.pow_succ, Int.mul_comm (b ^ r.length) b, ← Int.mul_assoc]
    refine Int.mul_le_mul_of_nonneg_right ?_ (Int.pow_nonneg (Int.le_of_lt hb))
    rw [Int.add_mul, Int.one_mul, Int.mul_comm c b]
    omega
/-- there are few different rows -/
theorem rows_few {b : Int} {n : Nat} (hb : 0 < b) {N : Nat} (hN : b ^ n ≤ (N : Int)) {rs : List (List Int)} (hd : rs.Nodup) (hr : ∀ r, r ∈ rs → r.length = n ∧ InB b r) : rs.length ≤ N := by
  have h := nodup_lt' N (rs.map fun r => (codeB b 0 r).toNat) ?_ ?_
  · rw [List.length_map] at h; exact h
  · refine List.pairwise_map.2 (List.Pairwise.imp_of_mem ?_ hd)
    intro r s hr' hs' hne e
    have h1 := hr r hr'
    have h2 := hr s hs'
    have b1 := codeB_bound hb r 0 (by decide) h1.2
    have b2 := codeB_bound hb s 0 (by decide) h2.2
    exact hne (codeB_inj hb r s 0 (by rw [h1.1, h2.1]) h1.2 h2.2 (by omega))
  · intro i hi
    obtain ⟨r, hr', rfl⟩ := List.mem_map.1 hi
    have h1 := hr r hr'
    have b1 := codeB_bound hb r 0 (by decide) h1.2
    rw [h1.1] at b1
    have : (0 + 1) * b ^ n = b ^ n := by omega
    omega
end L2.EH
end S_Z6
section S_Q19
set_option exponentiation.threshold 2000
set_option maxRecDepth 100000
set_option maxHeartbeats 4000000
namespace L2.EH
open PySem PySem.Spec PyProof.Rows StX
def modRow (r : List Int) (m : Int) : List Int := r.map fun z => z % m
theorem modRow_in (r : List Int) {m : Int} (h : 0 < m) : InB m (modRow r m) := fun z hz => by
  obtain ⟨y, _, rfl⟩ := List.mem_map.1 hz
  exact ⟨Int.emod_nonneg _ (by omega), Int.emod_lt_of_pos _ h⟩
def colOf (M : List (List Int)) (j : Nat) : List Int := M.map fun r => r.getD j 0
def backOf (M : List (List Int)) (r : List Int) : List Int := (List.range r.length).map fun j => dotp r (colOf M j)
def spRested (K : PySem.W.Frag) : Sp := fun vs H Q _ => ∃ (a : Addr) (t : Bool) (r : List Int) (m : Int), vs = [.ref a, .int m] ∧ SqK t K H a (r.map V.int) ∧ 0 < m ∧ r.length ≤ 900 ∧ ∀ H' p, Same H H' → H p = none → H' p = some (.tup ((modRow r m).map V.int)) → Q (.ref p) H'
def spBack (K : PySem.W.Frag) : Sp := fun vs H Q _ => ∃ (v : V) (L : LR) (n b : Nat) (a : Addr) (r : List Int) (d m : Int), vs = [v, .ref a, .int d, .int m] ∧ Dp K H v (lawD L) ∧ LRB L n b ∧ SqT K H a (r.map V.int) ∧ r.length = n ∧ (∀ z, z ∈ r → z.natAbs < 2 ^ 20) ∧ (d = 0 ∨ d = 1) ∧ 0 < m ∧
  ∀ H' p, Same H H' → H p = none → H' p = some (.tup ((modRow (backOf (halfOf L d) r) m).map V.int)) → Q (.ref p) H'
theorem scRested : FnScope ["_law_row_here", "_law_modulus_here", "_law_item"] ["_law_row_here", "_law_modulus_here"] (defScope sRested) := ⟨rfl, rfl, rfl, by decide +kernel, rfl, by decide +kernel, by decide +kernel⟩
theorem scBack : FnScope ["_law_some", "_law_row_here", "_law_digit", "_law_modulus_here", "_law_many", "_law_found", "_law_place", "_law_j"] ["_law_some", "_law_row_here", "_law_digit", "_law_modulus_here"] (defScope sBack) := ⟨rfl, rfl, rfl, by decide +kernel, rfl, by decide +kernel, by decide +kernel⟩
def asgE : Stmt → Expr
  | .Assign _ e _ => e
  | _ => .Constant .none 0 ⟨0, 0, 0, 0⟩
section
variable {P : Program} {w : World} {K : PySem.W.Frag} {mg : Str → Option Value} {base : Heap}
theorem ok_rested {f : Addr} {fd : FuncData} (F : Fun K "_law_rested" "_law_rested" sRested f fd) (B : BN mg) : FnOk P w K mg base CX0 1 f fd ["_law_row_here", "_law_modulus_here"] (spRested K) := by
  refine F.ok scRested (fun vs H Q E h => ?_) (fun cdv A outer s H vs Q E hr h => ?_)
  · obtain ⟨a, t, r, m, rfl, _⟩ := h
    rfl
  · obtain ⟨a, t, r, m, rfl, ha, hm, hl, k⟩ := h
    have nd := scRested.nd
    refine ⟨_, pss_one (ps_ret (pe_callTy call_tuple_of (by rfl) B.tuple (by decide +kernel) (pa_cons (pe_lc (own := [("_law_item", 2)]) (g := gName 2) (tt := tYes) rfl nd (pi_seq (pv 0)) (blkOk_by (own := [("_law_item", 2)]) (N := ["_law_row_here", "_law_modulus_here", "_law_item"]) (sc := defScope sRested) (by decide +kernel))
      (fun _ _ _ _ _ => pg_name (i := 2) nd rfl (Or.inl rfl) (Or.inr rfl)) (fun _ _ _ _ _ => pts_nil)
      (fun _ _ _ _ _ => pe_op op_mod (pe_callTy call_int1 (by rfl) B.int (by decide +kernel) (pa_cons (pv 2) pa_nil)) (pv 1))) pa_nil))), ?_⟩
    refine ⟨_, rfl, a, t, rfl, ⟨_, ha⟩, fun D nD => ?_⟩
    refine lc_out (walk_sq (t := t) (xs := r.map V.int)) (fun i Hc => Grow H D (((modRow r m).take i).map V.int) Hc) (Grow.start nD) (fun i Hc _ g => ha.same g.s) ?_ ?_
    · rintro i x H0 Hc hi g ⟨rfl, hx'⟩
      rw [List.getElem?_map] at hx'
      cases e : r[i]? with
      | none => rw [e] at hx'; cases hx'
      | some z =>
        rw [e] at hx'
        cases hx'
        have hi2 := (List.getElem?_eq_some_iff.1 e).1
        have ge : (modRow r m)[i]? = some (z % m) := by unfold modRow; rw [List.getElem?_map, e]; rfl
        refine ⟨rfl, _, rfl, .inl ⟨_, rfl, _, rfl, _, _, rfl, rfl, hm, _, g.d, small1000 (by simp; omega), ?_⟩⟩
        have := g.step nD (V.int (z % m))
        rw [take_snoc' _ i _ ge, List.map_append]
        exact this
    · intro Hc g
      rw [List.take_of_length_le (by simp [modRow])] at g
      refine ⟨D, _, rfl, .inl ⟨SqL.of g.d, fun p np => ?_⟩⟩
      exact k _ p (g.s.trans (same_new np)) (g.s.free np) upd_same
theorem ok_back {f fR : Addr} {fd fdR : FuncData} (F : Fun K "_law_back" "_law_back" sBack f fd) (B : BN mg) (FR : Fn' P w K mg base 1 "_law_rested" fR fdR ["_law_row_here", "_law_modulus_here"] (spRested K)) :
    FnOk P w K mg base CX0 2 f fd ["_law_some", "_law_row_here", "_law_digit", "_law_modulus_here"] (spBack K) := by
  refine F.ok scBack (fun vs H Q E h => ?_) (fun cdv A outer s H vs Q E hr h => ?_)
  · obtain ⟨v, L, n, b, a, r, d, m, rfl, _⟩ := h
    rfl
  · obtain ⟨v, L, n, b, a, r, d, m, rfl, hd, hB, ha, hrl, hrz, h01, hm, k⟩ := h
    obtain ⟨sa, e, o, dd, t, rfl, hs, he, ho, hh, ht⟩ := law_parts hd
    have nd := scBack.nd
    refine ⟨_, pss_cons (ps_set (i := 4) nd rfl (Or.inr rfl) (pe_callB call_len (by rfl) B.len boot_len (pa_cons (pe_ix ix_tup (pv 0) pe_int (fun _ _ => rfl)) pa_nil)))
      (pss_cons (ps_setLc (i := 5) (own := [("_law_place", 6)]) (g := gName 6) (tt := tYes) (by rfl) nd rfl rfl (sw_true rfl rfl rfl (by decide +kernel)) (pi_range1 (by rfl) B.range (pa_cons (pv 4) pa_nil)) (blkOk_by (own := [("_law_place", 6)]) (N := ["_law_some", "_law_row_here", "_law_digit", "_law_modulus_here", "_law_many", "_law_found", "_law_place", "_law_j"]) (sc := defScope sBack) (by decide +kernel))
        (fun _ _ _ _ _ => pg_name (i := 6) nd rfl (Or.inr rfl) (Or.inl rfl)) (fun _ _ _ _ _ => pts_nil)
        (fun _ _ _ _ _ => pe_callB (cr_sumK (K := K) rfl rfl) (by rfl) B.sum (by decide +kernel) (pa_cons (pe_lc (own := [("_law_j", 7)]) (g := gName 7) (tt := tYes) rfl nd (pi_range1 (by rfl) B.range (pa_cons (pv 4) pa_nil)) (blkOk_by (own := [("_law_j", 7)]) (N := ["_law_some", "_law_row_here", "_law_digit", "_law_modulus_here", "_law_many", "_law_found", "_law_place", "_law_j"]) (sc := scIn (lcScope (asgE (bodyAt sBack 1))) (defScope sBack)) (by decide +kernel))
          (fun _ _ _ _ _ => pg_name (i := 7) nd rfl (Or.inl rfl) (Or.inr rfl)) (fun _ _ _ _ _ => pts_nil)
          (fun _ _ _ _ _ => pe_op op_mulW (pe_ix (ix_seqK (K := K) rfl) (pv 1) (pv 7) (fun _ _ => rfl)) (pe_ix (ix_seqK (K := K) rfl) (pe_ix (ix_seqK (K := K) rfl) (pe_ix (ix_seqK (K := K) rfl) (pv 0) (pv 2) (fun _ _ => rfl)) (pv 7) (fun _ _ => rfl)) (pv 6) (fun _ _ => rfl)))) pa_nil)))
      (pss_one (ps_ret (pe_call FR.ok (by exact hr) (by rfl) FR.m FR.k FR.b .nil pass0 (pa_cons (pv 5) (pa_cons (pv 3) pa_nil)))))), ?_⟩
    have hhn : ((L.heads.map V.int).length : Int) = (n : Int) := by rw [List.length_map, hB.h.1]
    have hn900 := hB.few
    refine ⟨_, rfl, sa, _, 2, .ref dd, rfl, rfl, hs, rfl, _, _, rfl, .inr ⟨_, hh, rfl⟩, ?_⟩
    rw [hhn]
    refine ⟨_, rfl, (n : Int), rfl, by omega, by omega, fun D nD => ?_⟩
    have en : ((n : Int).toNat) = n := by omega
    rw [en]
    have hH := hB.half d
    obtain ⟨xe, hxe, hse⟩ := rows_seqs he
    obtain ⟨xo, hxo, hso⟩ := rows_seqs ho
    obtain ⟨c, xs, hat, hc, hss⟩ : ∃ c xs, atI [V.ref e, V.ref o, V.ref dd, V.ref t] d = some (V.ref c) ∧ SqT K H c xs ∧ SeqsAt K H xs (halfOf L d) := by
      rcases h01 with rfl | rfl
      · exact ⟨e, xe, rfl, hxe, hse⟩
      · exact ⟨o, xo, rfl, hxo, hso⟩
    generalize hMM : halfOf L d = M at *
    refine lc_out walk_range (fun i Hc => Grow H D (((backOf M r).take i).map V.int) Hc) (Grow.start nD) (fun _ _ _ _ => trivial) ?_ ?_
    · rintro i x H0 Hc hi g ⟨rfl, rfl⟩
      have eI : ((0 : Int) + (i : Nat)) = (i : Int) := by omega
      show gName 6 (V.int (0 + (i : Nat))) _ _ _
      rw [eI]
      refine ⟨rfl, _, rfl, (n : Int), rfl, by omega, by omega, fun D2 nD2 => ?_⟩
      rw [en]
      refine lc_out walk_range (fun j Hd => Grow _ D2 (((List.zipWith (· * ·) r (colOf M i)).take j).map V.int) Hd) (Grow.start nD2) (fun _ _ _ _ => trivial) ?_ ?_
      · rintro j y H1 Hd hj g2 ⟨rfl, rfl⟩
        have eJ : ((0 : Int) + (j : Nat)) = (j : Int) := by omega
        show gName 7 (V.int (0 + (j : Nat))) _ _ _
        rw [eJ]
        have ss := g.s.trans g2.s
        have hjr : j < r.length := by omega
        have hjM : j < M.length := by rw [hH.1]; exact hj
        have e1 : (r.map V.int)[j]? = some (V.int r[j]) := by rw [List.getElem?_map, List.getElem?_eq_getElem hjr]; rfl
        have hjx : j < xs.length := by rw [hss.1]; exact hjM
        obtain ⟨rc, rt, hrx, hrc⟩ := hss.2 j xs[j] M[j] (List.getElem?_eq_getElem hjx) (List.getElem?_eq_getElem hjM)
        have hrow := hH.2 _ (List.getElem_mem hjM)
        have hiM : i < M[j].length := by rw [hrow.1]; exact hi
        have e2 : xs[j]? = some (V.ref rc) := by rw [List.getElem?_eq_getElem hjx, hrx]
        have e3 : (M[j].map V.int)[i]? = some (V.int M[j][i]) := by rw [List.getElem?_map, List.getElem?_eq_getElem hiM]; rfl
        have ec : (colOf M i)[j]? = some M[j][i] := by
          unfold colOf
          rw [List.getElem?_map, List.getElem?_eq_getElem hjM]
          show some (M[j].getD i 0) = _
          rw [List.getD_eq_getElem?_getD, List.getElem?_eq_getElem hiM]; rfl
        have gz : (List.zipWith (· * ·) r (colOf M i))[j]? = some (r[j] * M[j][i]) := by rw [List.getElem?_zipWith, List.getElem?_eq_getElem hjr, ec]
        refine ⟨rfl, _, rfl, _, rfl, (SqK.ofT (same_tup ss ha)).ix (atI_nat e1) ⟨_, rfl, _, rfl, (SqK.ofT (same_tup ss hs)).ix hat ⟨_, rfl, (SqK.ofT (same_tup ss hc)).ix (atI_nat e2) ⟨_, rfl, (hrc.same ss).ix (atI_nat e3) ⟨_, _, rfl, rfl, wide_mul (a := 20) (b := b) (hrz _ (List.getElem_mem hjr)) (hrow.2 _ (List.getElem_mem hiM)) (by decide) hB.bits.1 (by have := hB.bits; omega), _, g2.d, small1000 (by simp; omega), ?_⟩⟩⟩⟩⟩
        have := g2.step nD2 (V.int (r[j] * M[j][i]))
        rw [take_snoc' _ j _ gz, List.map_append]
        exact this
      intro Hd g2
      rw [List.take_of_length_le (by simp [colOf]; omega)] at g2
      have gz : (backOf M r)[i]? = some (dotp r (colOf M i)) := by
        unfold backOf
        rw [List.getElem?_map, List.getElem?_range (by omega)]; rfl
      refine ⟨D2, _, rfl, SqL.of g2.d, _, (g.same g2.s).d, small1000 (by simp [backOf]; omega), ?_⟩
      have := (g.same g2.s).step nD (V.int (dotp r (colOf M i)))
      rw [take_snoc' _ i _ gz, List.map_append]
      exact this
    · intro Hc g
      rw [List.take_of_length_le (by simp [backOf]; omega)] at g
      exact ⟨_, rfl, _, rfl, D, false, _, m, rfl, SqK.ofL g.d, hm, by simp [backOf]; omega, fun H' p s' np hp => k H' p (g.s.trans s') (g.s.free np) hp⟩
end
end L2.EH
end S_Q19
section S_Q20
set_option exponentiation.threshold 2000
set_option maxRecDepth 100000
set_option maxHeartbeats 4000000
namespace L2.EH
open PySem PySem.Spec PyProof.Rows StX
/-! ### lists of tuples that grow -/
def GrowD (K : PySem.W.Frag) (H : Hp) (D : Addr) (ds : List PyData) (Hc : Hp) : Prop := ∃ acc, Grow H D acc Hc ∧ DpAll K Hc acc ds
theorem GrowD.start {K : PySem.W.Frag} {H : Hp} {D : Addr} (nD : H D = none) : GrowD K H D [] (upd H D (.lst [])) := ⟨[], Grow.start nD, .nil⟩
/-- one more: what the comprehension asks of its turn -/
theorem GrowD.step {K : PySem.W.Frag} {H Hc H' : Hp} {D : Addr} {ds : List PyData} {v : V} {d : PyData} {Nx : Hp → Prop} (nD : H D = none) (g : GrowD K H D ds Hc) (s : Same Hc H') (hv : Dp K H' v d) (ht : tupOnly d = true) (hts : tupsOnly ds = true) (hl : ds.length ≤ 1000)
    (hN : ∀ Hn, GrowD K H D (ds ++ [d]) Hn → Nx Hn) : ∃ acc, H' D = some (.lst acc) ∧ acc.length < sizeLine ∧ Nx (upd H' D (.lst (acc ++ [v]))) := by
  obtain ⟨acc, ga, da⟩ := g
  have g2 := ga.same s
  have al : acc.length = ds.length := dpAll_len da
  refine ⟨acc, g2.d, small1000 (by omega), hN _ ⟨acc ++ [v], g2.step nD v, ?_⟩⟩
  have kt : KeepT H' (upd H' D (.lst (acc ++ [v]))) := keepT_upd g2.d rfl
  exact dpAll_snoc (dp_keep kt ht hv) (dpAll_keep ((keepT_same s).trans kt) hts da)
def ones (r : List Int) : List (Int × Int) := r.map fun z => (z, 1)
def plainOf (L : LR) : Plain := ⟨L.even.map ones, L.odd.map ones, L.heads, ones L.told⟩
def spPlain (K : PySem.W.Frag) : Sp := fun vs H Q _ => ∃ (v : V) (L : LR) (n b : Nat), vs = [v] ∧ Dp K H v (lawD L) ∧ LRB L n b ∧ ∀ H' p, Same H H' → H p = none → Dp K H' (.ref p) (plainD (plainOf L)) → Q (.ref p) H'
theorem scPlain : FnScope ["_law_some", "_law_sides", "_law_item", "_law_row_here", "_law_side"] ["_law_some"] (defScope sPlain) := ⟨rfl, rfl, rfl, by decide +kernel, rfl, by decide +kernel, by decide +kernel⟩
def lcElt : Expr → Expr
  | .ListComp e _ _ _ => e
  | e => e
def callArg : Expr → Expr
  | .Call _ (a :: _) _ _ => a
  | e => e
def scP1 : Scope := lcScope (asgE (bodyAt sPlain 0))
def scP2 : Scope := lcScope (callArg (lcElt (asgE (bodyAt sPlain 0))))
theorem pairs_tup (r : List (Int × Int)) : tupsOnly (r.map pairD) = true := tupsOnly_map pairD pairD_tup r
section
variable {P : Program} {w : World} {K : PySem.W.Frag} {mg : Str → Option Value} {base : Heap}
theorem ok_plain {f : Addr} {fd : FuncData} (F : Fun K "_law_plain" "_law_plain" sPlain f fd) (B : BN mg) : FnOk P w K mg base CX0 1 f fd ["_law_some"] (spPlain K) := by
  refine F.ok scPlain (fun vs H Q E h => ?_) (fun cdv A outer s H vs Q E hr h => ?_)
  · obtain ⟨v, L, n, b, rfl, _⟩ := h
    rfl
  · obtain ⟨v, L, n, b, rfl, hd, hB, k⟩ := h
    obtain ⟨sa, e, o, dd, t, rfl, hs, he, ho, hh, ht⟩ := law_parts hd
    have nd := scPlain.nd
    refine ⟨_, pss_cons (ps_setLc (i := 1) (own := [("_law_side", 4)]) (g := gName 4) (tt := tYes) (by rfl) nd rfl rfl (sw_true rfl rfl rfl (by decide +kernel)) (pi_tup (pe_slice sl_tup (pv 0) po_none (po_some pe_int))) (blkOk_by (own := [("_law_side", 4)]) (N := ["_law_some", "_law_sides", "_law_item", "_law_row_here", "_law_side"]) (sc := defScope sPlain) (by decide +kernel))
        (fun _ _ _ _ _ => pg_name (i := 4) nd rfl (Or.inl rfl) (Or.inr rfl)) (fun _ _ _ _ _ => pts_nil)
        (fun _ _ _ _ _ => pe_callTy (call_tupleK (K := K) rfl) (by rfl) B.tuple (by decide +kernel) (pa_cons (pe_lc (own := [("_law_row_here", 3)]) (g := gName 3) (tt := tYes) rfl nd (pi_tupK (K := K) rfl (pv 4)) (blkOk_by (own := [("_law_row_here", 3)]) (N := ["_law_some", "_law_sides", "_law_item", "_law_row_here", "_law_side"]) (sc := scIn scP1 (defScope sPlain)) (by decide +kernel))
          (fun _ _ _ _ _ => pg_name (i := 3) nd rfl (Or.inl rfl) (Or.inr rfl)) (fun _ _ _ _ _ => pts_nil)
          (fun _ _ _ _ _ => pe_callTy (call_tupleK (K := K) rfl) (by rfl) B.tuple (by decide +kernel) (pa_cons (pe_lc (own := [("_law_item", 2)]) (g := gName 2) (tt := tYes) rfl nd (pi_tupK (K := K) rfl (pv 3)) (blkOk_by (own := [("_law_item", 2)]) (N := ["_law_some", "_law_sides", "_law_item", "_law_row_here", "_law_side"]) (sc := scIn scP2 (scIn scP1 (defScope sPlain))) (by decide +kernel))
            (fun _ _ _ _ _ => pg_name (i := 2) nd rfl (Or.inl rfl) (Or.inr rfl)) (fun _ _ _ _ _ => pts_nil)
            (fun _ _ _ _ _ => pe_tup (pa_cons (pv 2) (pa_cons pe_int pa_nil)))) pa_nil))) pa_nil)))
      (pss_one (ps_ret (pe_tup (pa_cons (pe_ix ix_list (pv 1) pe_int (fun _ _ => rfl)) (pa_cons (pe_ix ix_list (pv 1) pe_int (fun _ _ => rfl)) (pa_cons (pe_ix ix_tup (pv 0) pe_int (fun _ _ => rfl)) (pa_cons (pe_callTy call_tuple_of (by rfl) B.tuple (by decide +kernel) (pa_cons (pe_lc (own := [("_law_item", 2)]) (g := gName 2) (tt := tYes) rfl nd (pi_tup (pe_ix ix_tup (pv 0) pe_int (fun _ _ => rfl))) (blkOk_by (own := [("_law_item", 2)]) (N := ["_law_some", "_law_sides", "_law_item", "_law_row_here", "_law_side"]) (sc := defScope sPlain) (by decide +kernel))
            (fun _ _ _ _ _ => pg_name (i := 2) nd rfl (Or.inl rfl) (Or.inr rfl)) (fun _ _ _ _ _ => pts_nil)
            (fun _ _ _ _ _ => pe_tup (pa_cons (pv 2) (pa_cons pe_int pa_nil)))) pa_nil)) pa_nil))))))), ?_⟩
    refine ⟨_, rfl, _, rfl, sa, _, rfl, hs, (fun z => by have h : (2 : Nat) = 4 := z.2; omega), fun a2 na2 => ?_⟩
    have s2 := same_new (o := .tup (cutV [V.ref e, V.ref o, V.ref dd, V.ref t] none (some 2))) na2
    have ha2 : (upd H a2 (.tup (cutV [V.ref e, V.ref o, V.ref dd, V.ref t] none (some 2)))) a2 = some (.tup [V.ref e, V.ref o]) := upd_same
    generalize upd H a2 (.tup (cutV [V.ref e, V.ref o, V.ref dd, V.ref t] none (some 2))) = H2 at *
    refine ⟨a2, rfl, ⟨_, SqT.of ha2⟩, fun D nD => ?_⟩
    have sides : ∀ i : Nat, i < 2 → ∃ (c : Addr) (M : List (List Int)), [V.ref e, V.ref o][i]? = some (V.ref c) ∧ [L.even, L.odd][i]? = some M ∧ Dp K H2 (.ref c) (rowsD M) ∧ M.length = n ∧ ∀ r, r ∈ M → r.length = n := fun i hi => by
      match i, hi with
      | 0, _ => exact ⟨e, L.even, rfl, rfl, dp_same s2 he, hB.e, fun r hr => (hB.er r hr).1⟩
      | 1, _ => exact ⟨o, L.odd, rfl, rfl, dp_same s2 ho, hB.o, fun r hr => (hB.or r hr).1⟩
    have hn900 := hB.few
    refine lc_out (walk_tup (xs := [V.ref e, V.ref o])) (fun i Hc => GrowD K H2 D ((([L.even, L.odd].take i).map fun M => matD (M.map ones))) Hc) (GrowD.start nD) (fun i Hc _ ⟨_, g, _⟩ => same_tup g.s (SqT.of ha2)) ?_ ?_
    · rintro i x H0 Hc hi ⟨acc, g, da⟩ ⟨rfl, hx'⟩
      obtain ⟨c, M, q1, q2, q3, q4, q5⟩ := sides i hi
      rw [q1] at hx'
      cases hx'
      obtain ⟨c', xs3, ec, hc3, hx3⟩ := dp_tup (dp_same g.s q3)
      cases ec
      have hl3 : xs3.length = M.length := by rw [dpAll_len hx3, List.length_map]
      refine ⟨rfl, _, rfl, c, rfl, ⟨_, hc3⟩, fun D2 nD2 => ?_⟩
      refine lc_out (walk_tup (xs := xs3)) (fun j Hd => GrowD K _ D2 ((M.take j).map fun r => prowD (ones r)) Hd) (GrowD.start nD2) (fun j Hd _ ⟨_, g, _⟩ => same_tup g.s hc3) ?_ ?_
      · rintro j x2 H1 Hd hj ⟨acc2, g2, da2⟩ ⟨rfl, hx2⟩
        obtain ⟨dx, hd1, hd2⟩ := dpAll_get' hx3 hx2
        rw [List.getElem?_map] at hd1
        cases er : M[j]? with
        | none => rw [er] at hd1; cases hd1
        | some r =>
          rw [er] at hd1
          cases hd1
          obtain ⟨c3, rfl, hr3⟩ := dp_row (dp_same g2.s hd2)
          have hrl := q5 r (List.mem_of_getElem? er)
          refine ⟨rfl, _, rfl, c3, rfl, ⟨_, hr3⟩, fun D3 nD3 => ?_⟩
          refine lc_out (walk_tup (xs := r.map V.int)) (fun l He => GrowD K _ D3 (((ones r).take l).map pairD) He) (GrowD.start nD3) (fun l He _ ⟨_, g, _⟩ => same_tup g.s hr3) ?_ ?_
          · rintro l y H3 He hl g3 ⟨rfl, hy⟩
            rw [List.getElem?_map] at hy
            cases ey : r[l]? with
            | none => rw [ey] at hy; cases hy
            | some z =>
              rw [ey] at hy
              cases hy
              have hll := (List.getElem?_eq_some_iff.1 ey).1
              have ge : (ones r)[l]? = some (z, 1) := by unfold ones; rw [List.getElem?_map, ey]; rfl
              refine ⟨rfl, _, rfl, by show 2 ≤ sizeLine; decide, fun tt nt => ?_⟩
              refine GrowD.step nD3 g3 (same_new nt) (d := pairD (z, 1)) (pair_dp (SqT.of upd_same)) rfl (pairs_tup _) (by simp; omega) fun Hn gn => ?_
              rw [take_snoc' _ l _ ge, List.map_append]
              exact gn
          · rintro He ⟨acc3, g3, da3⟩
            rw [List.take_of_length_le (by simp [ones])] at da3
            refine ⟨D3, _, rfl, .inl ⟨SqL.of g3.d, fun p np => ?_⟩⟩
            refine GrowD.step nD2 ⟨acc2, g2, da2⟩ (g3.s.trans (same_new np)) (d := prowD (ones r)) (.tup (SqT.of upd_same) (dpAll_same (same_new np) da3)) (prowD_tup _) (tupsOnly_map _ (fun r => prowD_tup _) _) (by simp; have := (List.getElem?_eq_some_iff.1 er).1; omega) fun Hn gn => ?_
            rw [take_snoc' _ j _ er, List.map_append]
            exact gn
      · rintro Hd ⟨acc2, g2, da2⟩
        rw [List.take_of_length_le (by omega)] at da2
        refine ⟨D2, _, rfl, .inl ⟨SqL.of g2.d, fun p np => ?_⟩⟩
        refine GrowD.step nD ⟨acc, g, da⟩ (g2.s.trans (same_new np)) (d := matD (M.map ones)) (.tup (SqT.of upd_same) (by rw [List.map_map]; exact dpAll_same (same_new np) da2)) (matD_tup _) (tupsOnly_map _ (fun r => matD_tup _) _) (by simp; omega) fun Hn gn => ?_
        rw [take_snoc' _ i _ q2, List.map_append]
        exact gn
    · rintro Hc ⟨acc, g, da⟩
      obtain ⟨v1, v2, rfl, dv1, dv2⟩ : ∃ v1 v2, acc = [v1, v2] ∧ Dp K Hc v1 (matD (L.even.map ones)) ∧ Dp K Hc v2 (matD (L.odd.map ones)) := by
        cases da with
        | cons h1 r => cases r with
          | cons h2 r => cases r with
            | nil => exact ⟨_, _, rfl, h1, h2⟩
      have s0c := s2.trans g.s
      refine ⟨_, rfl, D, _, 0, v1, rfl, rfl, SqL.of g.d, rfl, ?_⟩
      refine ⟨_, rfl, D, _, 1, v2, rfl, rfl, SqL.of g.d, rfl, ?_⟩
      refine ⟨_, rfl, sa, _, 2, .ref dd, rfl, rfl, same_tup s0c hs, rfl, ?_⟩
      refine ⟨_, rfl, sa, _, 3, .ref t, rfl, rfl, same_tup s0c hs, rfl, t, rfl, ⟨_, same_tup s0c ht⟩, fun D3 nD3 => ?_⟩
      refine lc_out (walk_tup (xs := L.told.map V.int)) (fun l He => GrowD K _ D3 (((ones L.told).take l).map pairD) He) (GrowD.start nD3) (fun l He _ ⟨_, g, _⟩ => same_tup g.s (same_tup s0c ht)) ?_ ?_
      · rintro l y H3 He hl g3 ⟨rfl, hy⟩
        rw [List.getElem?_map] at hy
        cases ey : L.told[l]? with
        | none => rw [ey] at hy; cases hy
        | some z =>
          rw [ey] at hy
          cases hy
          have hll := (List.getElem?_eq_some_iff.1 ey).1
          have ge : (ones L.told)[l]? = some (z, 1) := by unfold ones; rw [List.getElem?_map, ey]; rfl
          have htl := hB.t.1
          refine ⟨rfl, _, rfl, by show 2 ≤ sizeLine; decide, fun tt nt => ?_⟩
          refine GrowD.step nD3 g3 (same_new nt) (d := pairD (z, 1)) (pair_dp (SqT.of upd_same)) rfl (pairs_tup _) (by simp; omega) fun Hn gn => ?_
          rw [take_snoc' _ l _ ge, List.map_append]
          exact gn
      · rintro He ⟨acc3, g3, da3⟩
        rw [List.take_of_length_le (by simp [ones])] at da3
        refine ⟨D3, _, rfl, .inl ⟨SqL.of g3.d, fun p np => ⟨by show 4 ≤ sizeLine; decide, fun pf npf => ?_⟩⟩⟩
        have s3 := g3.s.trans ((same_new (o := .tup acc3) np).trans (same_new (o := .tup [v1, v2, V.ref dd, V.ref p]) npf))
        refine k _ pf (s0c.trans s3) ((s0c.trans (g3.s.trans (same_new np))).free npf) (.tup (SqT.of upd_same) (.cons (dp_same s3 dv1) (.cons (dp_same s3 dv2) (.cons (row_dp (same_tup s3 (same_tup s0c hh))) (.cons ?_ .nil)))))
        exact .tup (SqT.of (by rw [upd_ne (ne_of_none upd_same npf)]; exact upd_same)) (dpAll_same ((same_new np).trans (same_new npf)) da3)
end
end L2.EH
end S_Q20
section S_Q21
set_option exponentiation.threshold 2000
set_option maxRecDepth 100000
set_option maxHeartbeats 4000000
namespace L2.EH
open PySem PySem.Spec PyProof.Rows StX
/-! ### _law_ascending: rows by their codes -/
structure RowsL (H : Hp) (a : Addr) (ts : List Addr) (rs : List (List Int)) : Prop where
  a : H a = some (.lst (ts.map V.ref))
  l : ts.length = rs.length
  t : ∀ (i : Nat) t r, ts[i]? = some t → rs[i]? = some r → H t = some (.tup (r.map V.int))
def codeK (r : List Int) : Key := Sum.inl (codeB 100 0 r)
structure CodesOk (H : Hp) (kvs : List (Key × V)) (rs : List (List Int)) : Prop where
  nd : (kvs.map (·.1)).Nodup
  at_ : ∀ k v, (k, v) ∈ kvs → ∃ r t, r ∈ rs ∧ k = codeK r ∧ v = V.ref t ∧ H t = some (.tup (r.map V.int))
  all : ∀ r, r ∈ rs → (valV kvs (codeK r)).isSome = true
  len : kvs.length ≤ rs.length
theorem putK_keys {kvs : List (Key × V)} {k : Key} {v : V} (h : (kvs.map (·.1)).Nodup) : ((putK kvs k v).map (·.1)).Nodup := by
  unfold putK
  split
  · have e : (kvs.map fun kv => if kv.1 = k then (kv.1, v) else kv).map (·.1) = kvs.map (·.1) := by
      rw [List.map_map]
      refine List.map_congr_left fun kv _ => ?_
      show (if kv.1 = k then (kv.1, v) else kv).1 = kv.1
      split <;> rfl
    rw [e]; exact h
  · rename_i hn
    rw [List.map_append]
    refine List.nodup_append.mpr ⟨h, by simp, fun a ha b hb e => hn ?_⟩
    rw [List.mem_singleton.1 (show b ∈ [k] from hb)] at e
    obtain ⟨kv, hkv, rfl⟩ := List.mem_map.1 ha
    exact List.any_eq_true.mpr ⟨kv, hkv, decide_eq_true e⟩
theorem putK_mem {kvs : List (Key × V)} {k k' : Key} {v v' : V} (h : (k', v') ∈ putK kvs k v) : (k' = k ∧ v' = v) ∨ (k', v') ∈ kvs := by
  unfold putK at h
  split at h
  · obtain ⟨kv, hkv, e⟩ := List.mem_map.1 h
    split at e
    · rename_i he
      cases e
      exact .inl ⟨he, rfl⟩
    · rw [← e]; exact .inr hkv
  · rcases List.mem_append.1 h with h | h
    · exact .inr h
    · have := List.mem_singleton.1 h
      cases this
      exact .inl ⟨rfl, rfl⟩
theorem CodesOk.put {H : Hp} {kvs : List (Key × V)} {rs : List (List Int)} (h : CodesOk H kvs rs) {r : List Int} {t : Addr} (ht : H t = some (.tup (r.map V.int))) : CodesOk H (putK kvs (codeK r) (.ref t)) (rs ++ [r]) where
  nd := putK_keys h.nd
  at_ := fun k v hk => by
    rcases putK_mem hk with ⟨rfl, rfl⟩ | hk
    · exact ⟨r, t, List.mem_append_right _ (List.mem_singleton.2 rfl), rfl, rfl, ht⟩
    · obtain ⟨r', t', a1, a2⟩ := h.at_ k v hk
      exact ⟨r', t', List.mem_append_left _ a1, a2⟩
  all := fun r' hr' => by
    rw [valV_put]
    split
    · rfl
    · rename_i hne
      rcases List.mem_append.1 hr' with h1 | h1
      · exact h.all r' h1
      · exact absurd (by rw [List.mem_singleton.1 h1]) hne
  len := by
    have := length_putK kvs (codeK r) (.ref t)
    have := h.len
    rw [List.length_append]; simp only [List.length_singleton]; omega
theorem CodesOk.same {H H' : Hp} {kvs : List (Key × V)} {rs : List (List Int)} (h : CodesOk H kvs rs) (s : KeepT H H') : CodesOk H' kvs rs :=
  ⟨h.nd, fun k v hk => by obtain ⟨r, t, a1, a2, a3, a4⟩ := h.at_ k v hk; exact ⟨r, t, a1, a2, a3, s _ _ a4 rfl⟩, h.all, h.len⟩
theorem valV_mem : ∀ {kvs : List (Key × V)} {k : Key} {v : V}, valV kvs k = some v → (k, v) ∈ kvs
  | [], k, v, h => by simp [valV] at h
  | (k', v') :: l, k, v, h => by
    rw [valV_cons] at h
    split at h
    · rename_i e
      cases h
      rw [e]; exact List.mem_cons_self ..
    · exact List.mem_cons_of_mem _ (valV_mem h)
theorem mem_valV : ∀ {kvs : List (Key × V)} {k : Key} {v : V}, (kvs.map (·.1)).Nodup → (k, v) ∈ kvs → valV kvs k = some v
  | [], k, v, _, h => by cases h
  | (k', v') :: l, k, v, hn, h => by
    rw [valV_cons]
    rw [List.map_cons, List.nodup_cons] at hn
    rcases List.mem_cons.1 h with e | h
    · cases e; rw [if_pos rfl]
    · rw [if_neg (fun e => hn.1 (List.mem_map.2 ⟨(k, v), h, e.symm⟩))]
      exact mem_valV hn.2 h
def keyI : Key → Int
  | .inl i => i
  | .inr _ => 0
def spAscending (K : PySem.W.Frag) : Sp := fun vs H Q _ => ∃ (a : Addr) (ts : List Addr) (rs : List (List Int)) (n : Nat), vs = [.ref a] ∧ RowsL H a ts rs ∧ rs.length ≤ 1000 ∧ n ≤ 900 ∧ (∀ r, r ∈ rs → r.length = n ∧ InB 100 r) ∧
  ∀ H' p rs', Same H H' → H p = none → RowsT H' (.ref p) rs' → AscR none rs' → (∀ r, r ∈ rs' ↔ r ∈ rs) → rs'.length ≤ rs.length → Q (.ref p) H'
theorem scAscending : FnScope ["_law_rows", "_law_codes", "_law_row_here", "_law_code", "_law_item"] ["_law_rows"] (defScope sAscending) := ⟨rfl, rfl, rfl, by decide +kernel, rfl, by decide +kernel, by decide +kernel⟩
/-- rows in the order of their codes -/
theorem asc_of_codes {n : Nat} : ∀ (rs : List (List Int)) (o : Option (List Int)), (∀ r, r ∈ rs → r.length = n ∧ InB 100 r) → (∀ b, o = some b → b.length = n ∧ InB 100 b ∧ ∀ r, r ∈ rs → codeB 100 0 b < codeB 100 0 r) → rs.Pairwise (fun a b => codeB 100 0 a < codeB 100 0 b) → AscR o rs
  | [], o, _, _, _ => by cases o <;> trivial
  | r :: rs, o, h, ho, hp => by
    have hp' := List.pairwise_cons.1 hp
    have hr := h r (List.mem_cons_self ..)
    have ih := asc_of_codes rs (some r) (fun s hs => h s (List.mem_cons_of_mem _ hs)) (fun b hb => by cases hb; exact ⟨hr.1, hr.2, hp'.1⟩) hp'.2
    cases o with
    | none => exact ih
    | some b =>
      have hb := ho b rfl
      exact ⟨codeB_order (by decide) b r 0 (by rw [hb.1, hr.1]) hb.2.1 hr.2 (hb.2.2 r (List.mem_cons_self ..)), ih⟩
section
variable {P : Program} {w : World} {K : PySem.W.Frag} {mg : Str → Option Value} {base : Heap}
theorem ok_ascending {f : Addr} {fd : FuncData} (F : Fun K "_law_ascending" "_law_ascending" sAscending f fd) (B : BN mg) : FnOk P w K mg base CX0 1 f fd ["_law_rows"] (spAscending K) := by
  refine F.ok scAscending (fun vs H Q E h => ?_) (fun cdv A outer s H vs Q E hr h => ?_)
  · obtain ⟨a, ts, rs, n, rfl, _⟩ := h
    rfl
  · obtain ⟨a, ts, rs, n, rfl, hR, hl, hn, hrs, k⟩ := h
    have nd := scAscending.nd
    have hu := hu_of hr
    refine ⟨_, pss_cons (ps_set (i := 1) nd rfl (Or.inr rfl) pe_dnewK)
      (pss_cons (ps_for PassesOwn.never rfl (pi_list (pv 0)) (pg_name (i := 2) nd rfl (Or.inl rfl))
        (pss_cons (ps_set (i := 3) nd rfl (Or.inl rfl) pe_int)
        (pss_cons (ps_for PassesOwn.never rfl (pi_tup (pv 2)) (pg_name (i := 4) nd rfl (Or.inl rfl))
          (pss_one (ps_set (i := 3) nd rfl (Or.inl rfl) (pe_op op_add (pe_op op_mul pe_int (pv 3)) (pv 4)))))
        (pss_one (ps_dput hu (pv 1) (pv 3) (pv 2) rfl)))))
      (pss_one (ps_ret (pe_callTy call_tuple_of (by rfl) B.tuple (by decide +kernel) (pa_cons (pe_lc (own := [("_law_code", 3)]) (g := gName 3) (tt := tYes) rfl nd
          (pi_list (pe_callB cr_sortedI (by rfl) B.sorted (by decide +kernel) (pa_cons (pe_lock (pe_lc (own := [("_law_code", 3)]) (g := gName 3) (tt := tYes) rfl nd (pi_keys (pv 1)) (blkOk_by (own := [("_law_code", 3)]) (N := ["_law_rows", "_law_codes", "_law_row_here", "_law_code", "_law_item"]) (sc := defScope sAscending) (by decide +kernel))
            (fun _ _ _ _ _ => pg_name (i := 3) nd rfl (Or.inl rfl) (Or.inr rfl)) (fun _ _ _ _ _ => pts_nil)
            (fun _ _ _ _ _ => pe_callTy call_int1 (by rfl) B.int (by decide +kernel) (pa_cons (pv 3) pa_nil)))) pa_nil))) (blkOk_by (own := [("_law_code", 3)]) (N := ["_law_rows", "_law_codes", "_law_row_here", "_law_code", "_law_item"]) (sc := defScope sAscending) (by decide +kernel))
          (fun _ _ _ _ _ => pg_name (i := 3) nd rfl (Or.inl rfl) (Or.inr rfl)) (fun _ _ _ _ _ => pts_nil)
          (fun _ _ _ _ _ => pe_dget (by exact hu) (pv 1) (pv 3) (fun _ _ => rfl))) pa_nil))))), ?_⟩
    refine fun D nD => ?_
    have sD := same_new (o := .dK []) nD
    have hDa : D ≠ a := fun e => by rw [e, hR.a] at nD; cases nD
    refine ⟨_, rfl, a, rfl, ⟨_, SqL.of (sD _ _ hR.a)⟩, ?_⟩
    refine for_it (walk_list (xs := ts.map V.ref)) (fun i σ Hc => Same H Hc ∧ ∃ kvs x2 x3 x4, σ = [some (.ref a), some (.ref D), x2, x3, x4] ∧ Hc D = some (.dK kvs) ∧ CodesOk Hc kvs (rs.take i))
      ⟨sD, [], none, none, none, rfl, upd_same, ⟨List.nodup_nil, (fun k v h => by cases h), (fun r h => by simp at h), by simp⟩⟩ (fun i σ Hc _ h => SqL.of (h.1 _ _ hR.a)) ?_ ?_
    · rintro i x σ H0 Hc hi ⟨hs, kvs, x2, x3, x4, rfl, hD, hC⟩ ⟨rfl, hx'⟩
      rw [List.getElem?_map] at hx'
      cases et : ts[i]? with
      | none => rw [et] at hx'; cases hx'
      | some t =>
        rw [et] at hx'
        cases hx'
        have hir : i < rs.length := by rw [← hR.l]; exact (List.getElem?_eq_some_iff.1 et).1
        have er : rs[i]? = some rs[i] := List.getElem?_eq_getElem hir
        have htt := hs _ _ (hR.t i t _ et er)
        generalize hrr : rs[i] = r at *
        refine ⟨_, rfl, t, rfl, ⟨_, SqT.of htt⟩, ?_⟩
        refine for_it (walk_tup (xs := r.map V.int)) (fun j σ' H' => H' = Hc ∧ ∃ y, σ' = [some (.ref a), some (.ref D), some (.ref t), some (.int (codeB 100 0 (r.take j))), y]) ⟨rfl, x4, rfl⟩ (fun j σ' H' _ h => by rw [h.1]; exact SqT.of htt) ?_ ?_
        · rintro j y σ' H1 H' hj ⟨rfl, y4, rfl⟩ ⟨rfl, hy⟩
          rw [List.getElem?_map] at hy
          cases ey : r[j]? with
          | none => rw [ey] at hy; cases hy
          | some z =>
            rw [ey] at hy
            cases hy
            refine ⟨_, rfl, _, _, rfl, rfl, .inl ⟨by decide, by decide⟩, _, rfl, _, _, rfl, rfl, rfl, some (.int z), ?_⟩
            rw [take_snoc' r j z ey, codeB_snoc]
            rfl
        · rintro σ' H' ⟨rfl, y4, rfl⟩
          rw [List.length_map, List.take_length]
          have hlk := hC.len
          rw [List.length_take] at hlk
          refine ⟨_, rfl, _, rfl, _, rfl, D, _, rfl, DPut.k (k := codeK r) hD (small1000 (by omega)), ?_⟩
          have hne : ∀ b o, H b = some o → b ≠ D := fun b o hb => ne_of_none hb nD
          refine ⟨fun b o hb => by rw [upd_ne (hne b o hb)]; exact hs _ _ hb, _, _, _, _, rfl, upd_same, ?_⟩
          rw [take_snoc' rs i r er]
          have kT : KeepT H' (upd H' D (.dK (putK kvs (codeK r) (.ref t)))) := keepT_upd hD rfl
          exact (hC.put htt).same kT
    rintro σ Hc ⟨hs, kvs, x2, x3, x4, rfl, hD, hC⟩
    rw [List.length_map, hR.l, List.take_length] at hC
    have kint : ∀ (i : Nat) kk v, kvs[i]? = some (kk, v) → kV kk = V.int (keyI kk) := fun i kk v h => by
      obtain ⟨r, t, _, e, _⟩ := hC.at_ kk v (List.mem_of_getElem? h)
      rw [e]; rfl
    refine ⟨D, _, hD, trivial, fun od => ⟨_, rfl, D, od, rfl, .inl ⟨_, upd_same, fun G nG => ?_⟩⟩⟩
    have hGD : G ≠ D := by intro e; rw [e, upd_same] at nG; cases nG
    have nG' : Hc G = none := by rw [upd_ne hGD] at nG; exact nG
    refine lc_out (walk_keys (d := D) (o := od) (kvs := kvs)) (fun i Hg => Hg D = some (.frz od (.dK kvs)) ∧ (∀ y o', y ≠ D → Hc y = some o' → Hg y = some o') ∧ Hg G = some (.lst (((kvs.map fun kv => keyI kv.1).take i).map V.int)))
      ⟨by rw [upd_ne (Ne.symm hGD), upd_same], fun y o' hy ho => by rw [upd_ne (ne_of_none ho nG'), upd_ne hy]; exact ho, upd_same⟩ (fun i Hg _ h => h.1) ?_ ?_
    · rintro i x H0 Hg hi ⟨hF, hk, hG⟩ ⟨rfl, kk, v, hkv, rfl⟩
      rw [kint i kk v hkv]
      have hil : i < kvs.length := hi
      have hcl := hC.len
      have gi : (kvs.map fun kv => keyI kv.1)[i]? = some (keyI kk) := by rw [List.getElem?_map, hkv]; rfl
      refine ⟨rfl, _, rfl, .inl ⟨_, rfl, _, hG, small1000 (by simp; omega), by rw [upd_ne (Ne.symm hGD)]; exact hF, fun y o' hy ho => by rw [upd_ne (ne_of_none ho nG')]; exact hk y o' hy ho, ?_⟩⟩
      rw [upd_same, take_snoc' _ i _ gi, List.map_append]
      rfl
    rintro Hg ⟨hF, hk, hG⟩
    rw [List.take_of_length_le (by simp)] at hG
    generalize hks : (kvs.map fun kv => keyI kv.1) = ks at *
    have hkn : ks.Nodup := by
      rw [← hks]
      have e : kvs.map (fun kv => keyI kv.1) = (kvs.map (·.1)).map keyI := by rw [List.map_map]; rfl
      rw [e]
      refine List.pairwise_map.2 (List.Pairwise.imp_of_mem ?_ hC.nd)
      intro x y hx hy hne he
      obtain ⟨⟨k1, v1⟩, hm1, rfl⟩ := List.mem_map.1 hx
      obtain ⟨⟨k2, v2⟩, hm2, rfl⟩ := List.mem_map.1 hy
      obtain ⟨r1, t1, _, e1, _⟩ := hC.at_ k1 v1 hm1
      obtain ⟨r2, t2, _, e2, _⟩ := hC.at_ k2 v2 hm2
      refine hne ?_
      show k1 = k2
      have he' : keyI k1 = keyI k2 := he
      rw [e1, e2] at he' ⊢
      have : codeB 100 0 r1 = codeB 100 0 r2 := he'
      unfold codeK
      rw [this]
    refine ⟨hF, G, ks, rfl, SqL.of (by rw [upd_ne hGD]; exact hG), fun ns p hperm hpw np => ?_⟩
    have hpD : p ≠ D := fun e => by rw [e, upd_same] at np; cases np
    have np' : Hg p = none := by rw [upd_ne hpD] at np; exact np
    have hDx : (upd (upd Hg D (.dK kvs)) p (.lst (ns.map V.int))) D = some (.dK kvs) := by rw [upd_ne (Ne.symm hpD), upd_same]
    have sx : Same Hc (upd (upd Hg D (.dK kvs)) p (.lst (ns.map V.int))) := fun b o hb => by
      by_cases e : b = D
      · rw [e] at hb ⊢
        rw [hDx, ← hb, hD]
      · have h1 := hk b o e hb
        rw [upd_ne (ne_of_none h1 np'), upd_ne e]; exact h1
    have hpx : (upd (upd Hg D (.dK kvs)) p (.lst (ns.map V.int))) p = some (.lst (ns.map V.int)) := upd_same
    generalize upd (upd Hg D (.dK kvs)) p (.lst (ns.map V.int)) = Hx at *
    refine ⟨p, rfl, ⟨_, SqL.of hpx⟩, fun D3 nD3 => ?_⟩
    have nsl : ns.length = kvs.length := by rw [hperm.length_eq, ← hks, List.length_map]
    have hcl := hC.len
    refine lc_out (walk_list (xs := ns.map V.int)) (fun i Hd => ∃ (ts' : List Addr) (rs' : List (List Int)), Grow Hx D3 (ts'.map V.ref) Hd ∧ ts'.length = i ∧ rs'.length = i ∧ (∀ (j : Nat) t r, ts'[j]? = some t → rs'[j]? = some r → Hx t = some (.tup (r.map V.int))) ∧ rs'.map (codeB 100 0) = ns.take i ∧ ∀ r, r ∈ rs' → r ∈ rs)
      ⟨[], [], Grow.start nD3, rfl, rfl, (fun j t r h => by simp at h), rfl, fun r h => by cases h⟩ (fun i Hd _ ⟨_, _, g, _⟩ => SqL.of (g.s _ _ hpx)) ?_ ?_
    · rintro i x H0 Hd hi ⟨ts', rs', g, htl, hrl, htr, hcod, hin⟩ ⟨rfl, hx'⟩
      rw [List.getElem?_map] at hx'
      cases ec : ns[i]? with
      | none => rw [ec] at hx'; cases hx'
      | some c =>
        rw [ec] at hx'
        cases hx'
        have hil := (List.getElem?_eq_some_iff.1 ec).1
        have hck : c ∈ ks := hperm.mem_iff.1 (List.mem_of_getElem? ec)
        rw [← hks] at hck
        obtain ⟨⟨k1, v1⟩, hm1, e1⟩ := List.mem_map.1 hck
        obtain ⟨r, t, hr1, rfl, rfl, htt⟩ := hC.at_ k1 v1 hm1
        have ecode : codeB 100 0 r = c := e1
        have hv := mem_valV hC.nd hm1
        have hDd := g.s _ _ hDx
        have dg : DGet Hd D (.int c) (some (V.ref t)) := .inl ⟨kvs, codeK r, .inl hDd, by rw [← ecode]; rfl, hv.symm⟩
        refine ⟨rfl, _, rfl, _, rfl, D, _, rfl, dg, _, g.d, small1000 (by rw [List.length_map]; omega), ts' ++ [t], rs' ++ [r], ?_, by simp [htl], by simp [hrl], fun j t' r' h1 h2 => ?_, ?_, fun r' h => ?_⟩
        · have := g.step nD3 (V.ref t)
          rw [List.map_append]; exact this
        · by_cases hj : j < i
          · rw [List.getElem?_append_left (by omega)] at h1 h2
            exact htr j t' r' h1 h2
          · have hj2 : j = i := by
              have := (List.getElem?_eq_some_iff.1 h1).1
              simp at this; omega
            subst hj2
            rw [List.getElem?_append_right (by omega), htl, Nat.sub_self] at h1
            rw [List.getElem?_append_right (by omega), hrl, Nat.sub_self] at h2
            cases h1; cases h2
            exact sx _ _ htt
        · rw [List.map_append, hcod, take_snoc' ns i c ec, ← ecode]; rfl
        · rcases List.mem_append.1 h with h | h
          · exact hin r' h
          · rw [List.mem_singleton.1 h]; exact hr1
    rintro Hd ⟨ts', rs', g, htl, hrl, htr, hcod, hin⟩
    rw [List.take_of_length_le (by simp)] at hcod
    rw [List.length_map] at htl hrl
    refine ⟨D3, _, rfl, .inl ⟨SqL.of g.d, fun q nq => ?_⟩⟩
    have sall := hs.trans (sx.trans g.s)
    have hnn : ns.Nodup := hperm.nodup_iff.2 hkn
    refine k _ q rs' (sall.trans (same_new nq)) (sall.free nq) ⟨q, ts', rfl, upd_same, by omega, fun j t r h1 h2 => ?_⟩ ?_ (fun r => ⟨hin r, fun hr => ?_⟩) (by omega)
    · exact (same_new nq) _ _ (g.s _ _ (htr j t r h1 h2))
    · have hlt : ns.Pairwise (fun x y => x < y) := hpw.imp₂ (fun {x y} h1 h2 => by have : x ≠ y := h2; omega) hnn
      rw [← hcod] at hlt
      exact asc_of_codes (n := n) rs' none (fun r hr => hrs r (hin r hr)) (fun b hb => by cases hb) (List.pairwise_map.1 hlt)
    · have h1 := hC.all r hr
      cases ev : valV kvs (codeK r) with
      | none => rw [ev] at h1; cases h1
      | some v =>
        have hm := valV_mem ev
        have hc : codeB 100 0 r ∈ ks := by rw [← hks]; exact List.mem_map.2 ⟨_, hm, rfl⟩
        have hc2 : codeB 100 0 r ∈ rs'.map (codeB 100 0) := by rw [hcod]; exact hperm.mem_iff.2 hc
        obtain ⟨r', hr', e⟩ := List.mem_map.1 hc2
        have a1 := hrs r' (hin r' hr')
        have a2 := hrs r hr
        rw [← codeB_inj (by decide) r' r 0 (by rw [a1.1, a2.1]) a1.2 a2.2 e]
        exact hr'
end
end L2.EH
end S_Q21
section S_Z7
set_option maxRecDepth 100000
set_option maxHeartbeats 4000000
/-! {key: value} with one pair, the key a tuple of ints and texts -/
namespace L2.EH
open PySem PySem.Spec PyProof.Rows L2
def tDisp1 (tk tv : TE) : TE := fun σ H Q => ∀ D, H D = none → tk σ (upd H D (.dT [])) fun y H1 => tv σ H1 fun z H2 => StT D y z H2 (Q (.ref D))
theorem pe_disp1 {X : Cx} {k v : Expr} {tk tv : TE} {pos : Pos} (hu : X.A.units + 1 < cLine) (hk : PE X k tk) (hv : PE X v tv) : PE X (.Dict [some k] [v] pos) (tDisp1 tk tv) := by
  refine ⟨fun pn s σ H Q J h => ?_⟩
  have hn := J.hok.fresh (Nat.le_refl s.heap.objs.size)
  have J1 := J.laid (a := s.heap.objs.size) (o := .dT []) (h' := s.heap.push { cls := .type "dict", data := .dict #[] }) (t' := s.toks) (fun _ _ q => Heap.get?_push_of_some _ q) (Nat.le_refl _) (dt_empty s.heap J.big)
  have hz := zip_pairTrees [some k] [v] X.env pos rfl rfl
  rw [arm_eval_Dict, hz, dictDisplay_pairs (pairTrees [some k] [v] X.env pos) (by simp [pairTrees]) (by simp [pairTrees])]
  refine wpAny_bind (wpAny_standAt (wpAny_bind ?_))
  unfold subDict
  refine wpAny_bind (wpAny_alloc ?_)
  refine wpAny_bind (wpAny_holding ?_)
  rw [if_pos (by simp [pairTrees])]
  refine wpAny_bind ?_
  refine pairTrees_cons_walk (thn (hk.run pn _ σ _ _ J1 (h _ hn)) fun u s1 ⟨y, H1, J2, ry, q1⟩ => thn (hv.run pn s1 σ H1 _ J2 q1) fun r s2 ⟨z, H2, J3, rz, q2⟩ => pairTrees_nil_walk ?_)
  refine wpAny_holding ?_
  simp only [List.forIn_cons, List.forIn_nil, bind_assoc, pure_bind]
  refine wpAny_bind (thn (dstT.store X hu pn σ H2 s2 s.heap.objs.size y z u r (Q (.ref s.heap.objs.size)) X.xe J3 ry rz q2) fun _ s3 ⟨H3, J4, q3⟩ => ?_)
  exact wpAny_pure (wpAny_pure (wpAny_pure ⟨.ref s.heap.objs.size, H3, J4, rfl, q3⟩))
end L2.EH
end S_Z7
section S_Q22
set_option exponentiation.threshold 2000
set_option maxRecDepth 100000
set_option maxHeartbeats 4000000
namespace L2.EH
open PySem PySem.Spec PyProof.Rows StX
/-- the rests that a rule of the law leaves: its rows, its ends -/
structure Papers (L : LR) (m : Int) (rs : List (List Int)) (E : List Int) : Prop where
  asc : AscR none rs
  each : ∀ r, r ∈ rs → r.length = L.heads.length ∧ InB m r
  told : modRow L.told m ∈ rs
  e : ∀ r, r ∈ rs → modRow (backOf L.even r) m ∈ rs
  o : ∀ r, r ∈ rs → modRow (backOf L.odd r) m ∈ rs
  few : rs.length ≤ 200
  ends : ∀ r, r ∈ rs → dotp r L.heads % m ∈ E
  easc : AscInts (-1) E
  elt : ∀ z, z ∈ E → z < m
  elen : E.length ≤ 13
def spPapers (K : PySem.W.Frag) : Sp := fun vs H Q _ => ∃ (v : V) (L : LR) (n b : Nat) (m : Int), vs = [v, .int m] ∧ Dp K H v (lawD L) ∧ LRB L n b ∧ n ≤ 2 ∧ 2 ≤ m ∧ m ≤ 13 ∧
  ∀ H' p a1 a2 rs E, Same H H' → H p = none → H' p = some (.lst [.ref a1, .ref a2]) → RowsT H' (.ref a1) rs → H' a2 = some (.tup (E.map V.int)) → Papers L m rs E → Q (.ref p) H'
theorem scPapers : FnScope ["_law_some", "_law_modulus_here", "_law_first", "_law_rows", "_law_known", "_law_spot", "_law_digit", "_law_row_here", "_law_ends", "_law_item"] ["_law_some", "_law_modulus_here"] (defScope sPapers) := ⟨rfl, rfl, rfl, by decide +kernel, rfl, by decide +kernel, by decide +kernel⟩
theorem halfB {L : LR} {n b : Nat} (h : LRB L n b) {r : List Int} (hr : r.length = n) (d : Int) {m : Int} (hm : 0 < m) : (modRow (backOf (halfOf L d) r) m).length = n ∧ InB m (modRow (backOf (halfOf L d) r) m) := ⟨by simp [modRow, backOf, hr], modRow_in _ hm⟩
theorem pow_few {m : Int} {n : Nat} (hn : n ≤ 2) (h2 : 2 ≤ m) (h13 : m ≤ 13) : m ^ n ≤ ((169 : Nat) : Int) := by
  match n, hn with
  | 0, _ => simp
  | 1, _ => have : m ^ 1 = m := by rw [Int.pow_succ, Int.pow_zero, Int.one_mul]
            omega
  | 2, _ =>
    have : m * m ≤ 13 * 13 := Int.mul_le_mul h13 h13 (by omega) (by decide)
    have e : m ^ 2 = m * m := by rw [Int.pow_succ, Int.pow_succ, Int.pow_zero, Int.one_mul]
    rw [e]; omega
/-- the state of the search for rows -/
structure Search (L : LR) (n : Nat) (m : Int) (Hc : Hp) (Lr Dk : Addr) (ts : List Addr) (rs : List (List Int)) (kvs : List (List Key × V)) : Prop where
  l : RowsL Hc Lr ts rs
  d : Hc Dk = some (.dT kvs)
  k : knownK kvs rs
  nd : rs.Nodup
  each : ∀ r, r ∈ rs → r.length = n ∧ InB m r
  told : modRow L.told m ∈ rs
theorem Search.same {L : LR} {n : Nat} {m : Int} {H H' : Hp} {Lr Dk : Addr} {ts : List Addr} {rs : List (List Int)} {kvs : List (List Key × V)} (h : Search L n m H Lr Dk ts rs kvs) (s : Same H H') : Search L n m H' Lr Dk ts rs kvs :=
  ⟨⟨s _ _ h.l.a, h.l.l, fun i t r e1 e2 => s _ _ (h.l.t i t r e1 e2)⟩, s _ _ h.d, h.k, h.nd, h.each, h.told⟩
theorem asc_of_pw : ∀ (a : List Int) (lo : Int), (∀ z, z ∈ a → lo < z) → a.Pairwise (fun x y => x < y) → AscInts lo a
  | [], _, _, _ => trivial
  | x :: a, lo, h, hp => by
    have hp' := List.pairwise_cons.1 hp
    exact ⟨h x (List.mem_cons_self ..), asc_of_pw a x hp'.1 hp'.2⟩
def rangeI (n : Nat) : List Int := (List.range n).map fun (i : Nat) => (i : Int)
theorem rangeI_succ (n : Nat) : rangeI (n + 1) = rangeI n ++ [(n : Int)] := by unfold rangeI; rw [List.range_succ, List.map_append]; rfl
theorem rangeI_mem {n : Nat} {z : Int} : z ∈ rangeI n ↔ 0 ≤ z ∧ z < n := by
  unfold rangeI
  rw [List.mem_map]
  constructor
  · rintro ⟨i, hi, rfl⟩
    have := List.mem_range.1 hi
    omega
  · intro h
    exact ⟨z.toNat, List.mem_range.2 (by omega), by omega⟩
theorem rangeI_pw (n : Nat) : (rangeI n).Pairwise (fun x y => x < y) := by
  unfold rangeI
  exact List.pairwise_map.2 (List.pairwise_lt_range.imp fun {a b} h => by omega)
theorem rangeI_len (n : Nat) : (rangeI n).length = n := by simp [rangeI]
section
variable {P : Program} {w : World} {K : PySem.W.Frag} {mg : Str → Option Value} {base : Heap}
theorem ok_papers {f fR fB fI fA : Addr} {fd fdR fdB fdI fdA : FuncData} (F : Fun K "_law_papers" "_law_papers" sPapers f fd) (B : BN mg) (FR : Fn' P w K mg base 1 "_law_rested" fR fdR ["_law_row_here", "_law_modulus_here"] (spRested K))
    (FB : Fn' P w K mg base 2 "_law_back" fB fdB ["_law_some", "_law_row_here", "_law_digit", "_law_modulus_here"] (spBack K)) (FI : Fn' P w K mg base 1 "_law_image" fI fdI ["_law_rows", "_law_worths"] (spImage K))
    (FA : Fn' P w K mg base 1 "_law_ascending" fA fdA ["_law_rows"] (spAscending K)) : FnOk P w K mg base CX0 3 f fd ["_law_some", "_law_modulus_here"] (spPapers K) := by
  refine F.ok scPapers (fun vs H Q E h => ?_) (fun cdv A outer s H vs Q E hr h => ?_)
  · obtain ⟨v, L, n, b, m, rfl, _⟩ := h
    rfl
  · obtain ⟨v, L, n, b, m, rfl, hd, hB, hn2, hm2, hm13, k⟩ := h
    obtain ⟨sa, e, o, dd, t, rfl, hs, he, ho, hh, ht⟩ := law_parts hd
    have nd := scPapers.nd
    have hu := hu_of hr
    refine ⟨_, pss_cons (ps_set (i := 2) nd rfl (Or.inl rfl) (pe_call FR.ok (by exact hr.mono (by decide)) (by rfl) FR.m FR.k FR.b .nil pass0 (pa_cons (pe_ix ix_tup (pv 0) pe_int (fun _ _ => rfl)) (pa_cons (pv 1) pa_nil))))
      (pss_cons (ps_par3 (i := 3) (j := 4) (l := 5) (by rfl) nd rfl rfl rfl (by decide) (by decide) (by decide) rfl rfl rfl (pa_cons (pe_lst (pa_cons (pv 2) pa_nil)) (pa_cons (pe_disp1 hu (pv 2) pe_bl) (pa_cons pe_int pa_nil))) (by rfl))
      (pss_cons (ps_while PassesOwn.never (pt_cmpR op_lt (pv 5) (pe_callB call_len (by rfl) B.len boot_len (pa_cons (pv 3) pa_nil)) (by rfl))
        (pss_cons (ps_for PassesOwn.never rfl (pi_range1 (by rfl) B.range (pa_cons pe_int pa_nil)) (pg_name (i := 6) nd rfl (Or.inl rfl))
          (pss_cons (ps_set (i := 7) nd rfl (Or.inl rfl) (pe_call FB.ok (by exact hr) (by rfl) FB.m FB.k FB.b .nil pass0 (pa_cons (pv 0) (pa_cons (pe_ix ix_list (pv 3) (pv 5) (fun _ _ => rfl)) (pa_cons (pv 6) (pa_cons (pv 1) pa_nil))))))
          (pss_one (ps_if (pt_cmp (pc_dnotin hu (pv 7) (pv 4)))
            (pss_cons (ps_dput hu (pv 4) (pv 7) pe_bl rfl)
            (pss_one (ps_expr (pe_bm PySem.F.plainAttrs_list PySem.F.slot_list_append PySem.F.type_list_append mt_append (pv 3) (pa_cons (pv 7) pa_nil))))) pss_nil))))
        (pss_one (ps_set (i := 5) nd rfl (Or.inl rfl) (pe_op op_add (pv 5) pe_int)))))
      (pss_cons (ps_set (i := 8) nd rfl (Or.inr rfl) (pe_lc (own := [("_law_row_here", 7)]) (g := gName 7) (tt := tYes) rfl nd (pi_list (pv 3)) (blkOk_by (own := [("_law_row_here", 7)]) (N := ["_law_some", "_law_modulus_here", "_law_first", "_law_rows", "_law_known", "_law_spot", "_law_digit", "_law_row_here", "_law_ends", "_law_item"]) (sc := defScope sPapers) (by decide +kernel))
          (fun _ _ _ _ _ => pg_name (i := 7) nd rfl (Or.inl rfl) (Or.inr rfl)) (fun _ _ _ _ _ => pts_nil)
          (fun _ _ _ _ _ => pe_op op_mod (pe_callTy call_int1 (by rfl) B.int (by decide +kernel) (pa_cons (pe_ix (ix_seqK (K := K) rfl) (pe_call FI.ok (by exact hr.mono (by decide)) (by rfl) FI.m FI.k FI.b .nil pass0 (pa_cons (pe_lst (pa_cons (pv 7) pa_nil)) (pa_cons (pe_ix (ix_seqK (K := K) rfl) (pv 0) pe_int (fun _ _ => rfl)) pa_nil))) pe_int (fun _ _ => rfl)) pa_nil)) (pv 1))))
      (pss_one (ps_ret (pe_lst (pa_cons (pe_call FA.ok (by exact hr.mono (by decide)) (by rfl) FA.m FA.k FA.b .nil pass0 (pa_cons (pv 3) pa_nil)) (pa_cons (pe_callTy call_tuple_of (by rfl) B.tuple (by decide +kernel) (pa_cons (pe_lc (own := [("_law_item", 9)]) (g := gName 9) (tt := tTest (tOp (rIn K false) (tVar 9) (tVar 8))) rfl nd (pi_range1 (by rfl) B.range (pa_cons (pv 1) pa_nil)) (blkOk_by (own := [("_law_item", 9)]) (N := ["_law_some", "_law_modulus_here", "_law_first", "_law_rows", "_law_known", "_law_spot", "_law_digit", "_law_row_here", "_law_ends", "_law_item"]) (sc := defScope sPapers) (by decide +kernel))
          (fun _ _ _ _ _ => pg_name (i := 9) nd rfl (Or.inl rfl) (Or.inr rfl)) (fun _ _ _ _ _ => pts_one (pt_cmpR (op_inK (K := K) rfl) (pv 9) (pv 8) (by rfl))) (fun _ _ _ _ _ => pv 9)) pa_nil)) pa_nil)))))))), ?_⟩
    have hm0 : 0 < m := by omega
    have htl := hB.t.1
    -- the first row
    refine ⟨_, rfl, sa, _, 3, .ref t, rfl, rfl, hs, rfl, _, rfl, t, true, L.told, m, rfl, SqK.ofT ht, hm0, by omega, fun H1 q1 s1 nq1 hq1 => ?_⟩
    refine ⟨_, rfl, by show 1 ≤ sizeLine; decide, fun Lr nLr Dk nDk => ?_⟩
    have sL := same_new (o := .lst [V.ref q1]) nLr
    have hLr1 : (upd H1 Lr (.lst [V.ref q1])) Lr = some (.lst [V.ref q1]) := upd_same
    have hDL : Lr ≠ Dk := ne_of_none hLr1 nDk
    have sD := same_new (o := .dT []) nDk
    have hq1' : (upd (upd H1 Lr (.lst [V.ref q1])) Dk (.dT [])) q1 = some (.tup ((keyOf (modRow L.told m)).map kV)) := by rw [keyOf_kV]; exact sD _ _ (sL _ _ hq1)
    refine ⟨_, rfl, [], keyOf (modRow L.told m), q1, rfl, hq1', upd_same, by decide, _, _, _, rfl, ?_⟩
    have nLr0 : H Lr = none := s1.free nLr
    have nDk0 : H Dk = none := (s1.trans sL).free nDk
    have hk0 : knownK (putK [] (keyOf (modRow L.told m)) (V.bl true)) [modRow L.told m] := knownK_put (rs := []) ⟨Nat.le_refl _, fun r => by simp [valV]⟩ _
    generalize putK [] (keyOf (modRow L.told m)) (V.bl true) = kvs0 at *
    have s02 : Same H (upd (upd (upd H1 Lr (.lst [V.ref q1])) Dk (.dT [])) Dk (.dT kvs0)) := fun b o hb => by
      have h1 := s1 _ _ hb
      rw [upd_ne (ne_of_none hb nDk0), upd_ne (ne_of_none hb nDk0), upd_ne (ne_of_none hb nLr0)]; exact h1
    have hL2 : (upd (upd (upd H1 Lr (.lst [V.ref q1])) Dk (.dT [])) Dk (.dT kvs0)) Lr = some (.lst [V.ref q1]) := by rw [upd_ne hDL, upd_ne hDL]; exact hLr1
    have hD2 : (upd (upd (upd H1 Lr (.lst [V.ref q1])) Dk (.dT [])) Dk (.dT kvs0)) Dk = some (.dT kvs0) := upd_same
    have hqD : q1 ≠ Dk := ne_of_none (sL _ _ hq1) nDk
    have hq2 : (upd (upd (upd H1 Lr (.lst [V.ref q1])) Dk (.dT [])) Dk (.dT kvs0)) q1 = some (.tup ((modRow L.told m).map V.int)) := by rw [upd_ne hqD, upd_ne hqD]; exact sL _ _ hq1
    generalize upd (upd (upd H1 Lr (.lst [V.ref q1])) Dk (.dT [])) Dk (.dT kvs0) = H2 at *
    have hmt : (modRow L.told m).length = n := by simp [modRow, htl]
    have S0 : Search L n m H2 Lr Dk [q1] [modRow L.told m] kvs0 := ⟨⟨hL2, rfl, fun i t' r' e1 e2 => by
        match i with
        | 0 => cases e1; cases e2; exact hq2
        | i + 1 => cases e1⟩, hD2, hk0, List.nodup_cons.2 ⟨by simp, List.nodup_nil⟩, fun r hr => by rw [List.mem_singleton.1 hr]; exact ⟨hmt, modRow_in _ hm0⟩, List.mem_singleton.2 rfl⟩
    have few : ∀ {Hc ts rs kvs}, Search L n m Hc Lr Dk ts rs kvs → rs.length ≤ 169 := fun h => rows_few hm0 (pow_few hn2 hm2 hm13) h.nd h.each
    refine while_by (fun σ Hc => ∃ (ts : List Addr) (rs : List (List Int)) (kvs : List (List Key × V)) (sp : Nat) (x6 x7 : Option V), σ = [some (.ref sa), some (.int m), some (.ref q1), some (.ref Lr), some (.ref Dk), some (.int (sp : Int)), x6, x7, none, none] ∧ Same H Hc ∧ Search L n m Hc Lr Dk ts rs kvs ∧ sp ≤ rs.length ∧
        ∀ (j : Nat) r, j < sp → rs[j]? = some r → ∀ c : Nat, c < 2 → modRow (backOf (halfOf L (0 + (c : Int))) r) m ∈ rs)
      (fun (σ : L2.St) _ => match σ[5]? with
        | some (some (V.int z)) => 200 - z.toNat
        | _ => 0) ⟨[q1], _, kvs0, 0, none, none, rfl, s02, S0, Nat.zero_le _, fun j r h => absurd h (Nat.not_lt_zero _)⟩ ?_ ?_
    · rintro σ Hc ⟨ts, rs, kvs, sp, x6, x7, rfl, hsc, hS, hsp, hcl⟩
      refine ⟨_, rfl, _, rfl, _, _, rfl, .inl ⟨_, SqL.of hS.l.a, rfl⟩, _, _, rfl, rfl, _, rfl, ?_⟩
      have f1 := few hS
      have tl : (ts.map V.ref).length = rs.length := by rw [List.length_map, hS.l.l]
      rw [tl]
      by_cases hlt : sp < rs.length
      · refine iteT' (decide_eq_true (by omega)) ?_
        have er : rs[sp]? = some rs[sp] := List.getElem?_eq_getElem hlt
        have hts : sp < ts.length := by rw [hS.l.l]; exact hlt
        have et : ts[sp]? = some ts[sp] := List.getElem?_eq_getElem hts
        generalize hr0 : rs[sp] = r0 at *
        generalize ht0 : ts[sp] = t0 at *
        refine ⟨(2 : Int), rfl, by decide, by decide, ?_⟩
        refine for_range (lo := 0) (n := 2) (fun i σ' H' => ∃ (ts' : List Addr) (rs' : List (List Int)) (kvs' : List (List Key × V)) (x6 x7 : Option V), σ' = [some (.ref sa), some (.int m), some (.ref q1), some (.ref Lr), some (.ref Dk), some (.int (sp : Int)), x6, x7, none, none] ∧ Same H H' ∧ Search L n m H' Lr Dk ts' rs' kvs' ∧ sp < rs'.length ∧ ts'[sp]? = some t0 ∧ rs'[sp]? = some r0 ∧
            (∀ (j : Nat) r, j < sp → rs'[j]? = some r → ∀ c : Nat, c < 2 → modRow (backOf (halfOf L (0 + (c : Int))) r) m ∈ rs') ∧ ∀ c : Nat, c < i → modRow (backOf (halfOf L (0 + (c : Int))) r0) m ∈ rs')
          ⟨ts, rs, kvs, x6, x7, rfl, hsc, hS, hlt, et, er, hcl, fun c h => absurd h (Nat.not_lt_zero _)⟩ ?_ ?_
        · rintro i σ' H' hi ⟨ts', rs', kvs', x6', x7', rfl, hsc', hS', hlt', et', er', hcl', hi'⟩
          have htt := hS'.l.t sp t0 r0 et' er'
          have hr0e := hS'.each r0 (List.mem_of_getElem? er')
          have hat : atI (ts'.map V.ref) (sp : Int) = some (V.ref t0) := atI_nat (by rw [List.getElem?_map, et']; rfl)
          refine ⟨_, rfl, _, rfl, _, rfl, Lr, _, _, _, rfl, rfl, SqL.of hS'.l.a, hat, _, rfl, _, rfl, .ref sa, L, n, b, t0, r0, 0 + (i : Int), m, rfl, dp_same hsc' hd, hB, SqT.of htt, hr0e.1, fun z hz => ?_, by omega, hm0, fun H3 q s3 nq hq => ?_⟩
          · have := hr0e.2 z hz
            have e20 : (2 : Nat) ^ 20 = 1048576 := by decide
            omega
          have hrn := halfB hB hr0e.1 (0 + (i : Int)) hm0
          generalize hrnn : modRow (backOf (halfOf L (0 + (i : Int))) r0) m = rn at *
          have S3 := hS'.same s3
          have f3 := few S3
          have hqk : H3 q = some (.tup ((keyOf rn).map kV)) := by rw [keyOf_kV]; exact hq
          have s03 := hsc'.trans s3
          refine ⟨_, rfl, _, rfl, Dk, _, rfl, DGet.t S3.d hqk, _, rfl, ?_⟩
          rw [S3.k.2]
          by_cases hin : rn ∈ rs'
          · refine iteF' (by simpa using hin) ⟨ts', rs', kvs', _, _, rfl, s03, S3, hlt', et', er', hcl', fun c hc => ?_⟩
            by_cases hci : c < i
            · exact hi' c hci
            · have : c = i := by omega
              subst this
              rw [hrnn]; exact hin
          · refine iteT' (by simpa using hin) ?_
            have hkl := S3.k.1
            refine ⟨_, rfl, _, rfl, Dk, _, rfl, DPut.t S3.d hqk (big1024 (by omega)), ?_⟩
            have hLD : Lr ≠ Dk := fun e => by have := S3.l.a; rw [e, S3.d] at this; cases this
            have hL4 : (upd H3 Dk (.dT (putK kvs' (keyOf rn) (.bl true)))) Lr = some (.lst (ts'.map V.ref)) := by rw [upd_ne hLD]; exact S3.l.a
            refine ⟨_, rfl, .inl ⟨rfl, _, SqL.of hL4⟩, _, rfl, Lr, _, _, rfl, rfl, hL4, big1024 (by rw [List.length_map, S3.l.l]; omega), ?_⟩
            have kT : KeepT H3 (upd (upd H3 Dk (.dT (putK kvs' (keyOf rn) (.bl true)))) Lr (.lst (ts'.map V.ref ++ [V.ref q]))) := (keepT_upd S3.d rfl).trans (keepT_upd hL4 rfl)
            refine ⟨ts' ++ [q], rs' ++ [rn], putK kvs' (keyOf rn) (.bl true), _, _, rfl, fun bb oo hbb => ?_, ⟨⟨by rw [upd_same, List.map_append]; rfl, by simp [S3.l.l], fun j t' r' h1 h2 => ?_⟩, by rw [upd_ne (Ne.symm hLD), upd_same], knownK_put S3.k rn, ?_, fun r hr => ?_, List.mem_append_left _ S3.told⟩, by simp; omega, ?_, ?_, fun j r hj hr c hc => ?_, fun c hc => ?_⟩
            · rw [upd_ne (ne_of_none hbb nLr0), upd_ne (ne_of_none hbb nDk0)]; exact s03 _ _ hbb
            · by_cases hj : j < ts'.length
              · rw [List.getElem?_append_left hj] at h1
                rw [List.getElem?_append_left (by rw [← S3.l.l]; exact hj)] at h2
                exact kT _ _ (S3.l.t j t' r' h1 h2) rfl
              · have hj2 : j = ts'.length := by
                  have := (List.getElem?_eq_some_iff.1 h1).1
                  simp at this; omega
                rw [List.getElem?_append_right (by omega), hj2, Nat.sub_self] at h1
                rw [List.getElem?_append_right (by rw [← S3.l.l]; omega), hj2, S3.l.l, Nat.sub_self] at h2
                cases h1; cases h2
                exact kT _ _ hq rfl
            · refine List.nodup_append.mpr ⟨S3.nd, by simp, fun x hx y hy e => hin ?_⟩
              rw [← List.mem_singleton.1 hy, ← e]; exact hx
            · rcases List.mem_append.1 hr with h | h
              · exact S3.each r h
              · rw [List.mem_singleton.1 h]; exact hrn
            · rw [List.getElem?_append_left (by rw [S3.l.l]; exact hlt')]; exact et'
            · rw [List.getElem?_append_left hlt']; exact er'
            · rw [List.getElem?_append_left (by omega)] at hr
              exact List.mem_append_left _ (hcl' j r hj hr c hc)
            · by_cases hci : c < i
              · exact List.mem_append_left _ (hi' c hci)
              · have : c = i := by omega
                subst this
                rw [hrnn]; exact List.mem_append_right _ (List.mem_singleton.2 rfl)
        · rintro σ' H' ⟨ts', rs', kvs', x6', x7', rfl, hsc', hS', hlt', et', er', hcl', hi'⟩
          refine ⟨_, rfl, _, _, rfl, rfl, ⟨ts', rs', kvs', sp + 1, x6', x7', ?_, hsc', hS', hlt', fun j r hj hr c hc => ?_⟩, ?_⟩
          · rfl
          · by_cases hjs : j < sp
            · exact hcl' j r hjs hr c hc
            · have : j = sp := by omega
              subst this
              rw [er'] at hr
              cases hr
              exact hi' c hc
          · show 200 - ((sp : Int) + 1).toNat < 200 - (sp : Int).toNat
            omega
      · refine iteF' (decide_eq_false (by omega)) ?_
        have hspe : sp = rs.length := by omega
        have cl2 : ∀ r, r ∈ rs → ∀ c : Nat, c < 2 → modRow (backOf (halfOf L (0 + (c : Int))) r) m ∈ rs := fun r hr c hc => by
          obtain ⟨j, hj, e⟩ := List.getElem_of_mem hr
          exact hcl j r (by omega) (by rw [List.getElem?_eq_getElem hj, e]) c hc
        have ce : ∀ r, r ∈ rs → modRow (backOf L.even r) m ∈ rs := fun r hr => cl2 r hr 0 (by decide)
        have co : ∀ r, r ∈ rs → modRow (backOf L.odd r) m ∈ rs := fun r hr => cl2 r hr 1 (by decide)
        have f169 := few hS
        have hn900 := hB.few
        refine ⟨_, rfl, Lr, rfl, ⟨_, SqL.of hS.l.a⟩, fun De nDe => ?_⟩
        refine lc_out (walk_list (xs := ts.map V.ref)) (fun i Hd => Grow Hc De (((rs.map fun r => dotp r L.heads % m).take i).map V.int) Hd) (Grow.start nDe) (fun i Hd _ g => SqL.of (g.s _ _ hS.l.a)) ?_ ?_
        · rintro i x H0 Hd hi g ⟨rfl, hx'⟩
          rw [List.getElem?_map] at hx'
          cases et : ts[i]? with
          | none => rw [et] at hx'; cases hx'
          | some ti =>
            rw [et] at hx'
            cases hx'
            have hir : i < rs.length := by rw [← hS.l.l]; exact (List.getElem?_eq_some_iff.1 et).1
            have er : rs[i]? = some rs[i] := List.getElem?_eq_getElem hir
            have hre := hS.each _ (List.getElem_mem hir)
            have htt := g.s _ _ (hS.l.t i ti _ et er)
            generalize hri : rs[i] = r at *
            have s0d := hsc.trans g.s
            have gz : (rs.map fun r => dotp r L.heads % m)[i]? = some (dotp r L.heads % m) := by rw [List.getElem?_map, er]; rfl
            refine ⟨rfl, _, rfl, by show 1 ≤ sizeLine; decide, fun l2 nl2 => ?_⟩
            have s2 := same_new (o := .lst [V.ref ti]) nl2
            have hl2 : (upd Hd l2 (.lst [V.ref ti])) l2 = some (.lst [V.ref ti]) := upd_same
            refine ⟨_, rfl, (SqK.ofT (same_tup (s0d.trans s2) hs)).ix (i := 2) (v := .ref dd) rfl ⟨l2, dd, false, true, [V.ref ti], [r], L.heads, 20, b, rfl, SqK.ofL hl2, ⟨rfl, fun j x r' q1 q2 => ?_⟩, SqK.ofT (same_tup (s0d.trans s2) hh), by show 1 ≤ 900; decide, by rw [hB.h.1]; exact hn900, fun r' hr' => ?_, hB.h.2, by decide, hB.bits.1, by have := hB.bits; omega, fun Hd2 p3 s3 np3 hp3 => ?_⟩⟩
            · match j with
              | 0 => cases q1; cases q2; exact ⟨ti, true, rfl, SqK.ofT (SqT.of (s2 _ _ htt))⟩
              | j + 1 => cases q1
            · rw [List.mem_singleton.1 hr']
              refine ⟨by rw [hre.1, hB.h.1], fun z hz => ?_⟩
              have := hre.2 z hz
              have e20 : (2 : Nat) ^ 20 = 1048576 := by decide
              omega
            · have g2 := (g.same s2).same s3
              refine (SqK.ofL hp3).ix (i := 0) (v := .int (dotp r L.heads)) rfl (.inl ⟨_, rfl, _, rfl, _, _, rfl, rfl, hm0, _, g2.d, small1000 (by simp; omega), ?_⟩)
              have := g2.step nDe (V.int (dotp r L.heads % m))
              rw [take_snoc' _ i _ gz, List.map_append]
              exact this
        rintro Hd g
        rw [List.take_of_length_le (by simp [hS.l.l])] at g
        generalize hev : (rs.map fun r => dotp r L.heads % m) = ev at *
        have S4 := hS.same g.s
        refine ⟨_, rfl, Lr, ts, rs, n, rfl, S4.l, by omega, hn900, fun r hr => ⟨(hS.each r hr).1, fun z hz => by have := (hS.each r hr).2 z hz; omega⟩, fun H5 p5 rs5 s5 np5 hR5 hasc5 hiff5 hlen5 => ?_⟩
        have hev5 := s5 _ _ g.d
        refine ⟨_, rfl, m, rfl, by omega, by omega, fun D9 nD9 => ?_⟩
        refine lc_out walk_range (fun i He => Grow H5 D9 (((rangeI i).filter fun z => decide (z ∈ ev)).map V.int) He) (Grow.start nD9) (fun _ _ _ _ => trivial) ?_ ?_
        · rintro i x H0 He hi g9 ⟨rfl, rfl⟩
          have eI : ((0 : Int) + (i : Nat)) = (i : Int) := by omega
          show gName 9 (V.int (0 + (i : Nat))) _ _ _
          rw [eI]
          have hi13 : i < 13 := by omega
          have lf : ((rangeI i).filter fun z => decide (z ∈ ev)).length ≤ i := by have := List.length_filter_le (fun z => decide (z ∈ ev)) (rangeI i); rw [rangeI_len] at this; exact this
          refine ⟨rfl, _, rfl, _, rfl, De, _, rfl, .inl (SqL.of (g9.s _ _ hev5)), rfl, flat_ints ev, ?_⟩
          rw [if_neg (by decide), inV_ints]
          refine ⟨_, rfl, ?_⟩
          by_cases hmem : (i : Int) ∈ ev
          · refine iteT' (decide_eq_true hmem) ⟨_, rfl, _, g9.d, small1000 (by rw [List.length_map]; omega), ?_⟩
            have := g9.step nD9 (V.int (i : Int))
            rw [rangeI_succ, List.filter_append, List.filter_cons, if_pos (decide_eq_true hmem), List.filter_nil, List.map_append]
            exact this
          · refine iteF' (decide_eq_false hmem) ?_
            rw [rangeI_succ, List.filter_append, List.filter_cons, if_neg (by simpa using hmem), List.filter_nil, List.append_nil]
            exact g9
        · rintro He g9
          refine ⟨D9, _, rfl, .inl ⟨SqL.of g9.d, fun p9 np9 => ⟨by show 2 ≤ sizeLine; decide, fun pf npf => ?_⟩⟩⟩
          have s9 := same_new (o := .tup (((rangeI m.toNat).filter fun z => decide (z ∈ ev)).map V.int)) np9
          have sf := same_new (o := .lst [V.ref p5, V.ref p9]) npf
          have sall := (((hsc.trans g.s).trans s5).trans g9.s).trans s9
          have sx := (g9.s.trans s9).trans sf
          refine k _ pf p5 p9 rs5 ((rangeI m.toNat).filter fun z => decide (z ∈ ev)) (sall.trans sf) (sall.free npf) upd_same (hR5.same sx) (sf _ _ upd_same) ⟨hasc5, fun r hr => ?_, (hiff5 _).2 hS.told, fun r hr => (hiff5 _).2 (ce r ((hiff5 r).1 hr)), fun r hr => (hiff5 _).2 (co r ((hiff5 r).1 hr)), by omega, fun r hr => ?_, ?_, fun z hz => ?_, ?_⟩
          · have := hS.each r ((hiff5 r).1 hr)
            exact ⟨by rw [this.1, hB.h.1], this.2⟩
          · have hr' := (hiff5 r).1 hr
            have h1 : 0 ≤ dotp r L.heads % m := Int.emod_nonneg _ (by omega)
            have h2 := Int.emod_lt_of_pos (dotp r L.heads) hm0
            refine List.mem_filter.2 ⟨rangeI_mem.2 ⟨h1, by omega⟩, decide_eq_true ?_⟩
            rw [← hev]; exact List.mem_map.2 ⟨r, hr', rfl⟩
          · refine asc_of_pw _ _ (fun z hz => ?_) ((rangeI_pw _).filter _)
            have := rangeI_mem.1 (List.mem_filter.1 hz).1
            omega
          · have := rangeI_mem.1 (List.mem_filter.1 hz).1
            omega
          · have := List.length_filter_le (fun z => decide (z ∈ ev)) (rangeI m.toNat)
            rw [rangeI_len] at this
            omega
    · rintro σ H' Q1 Q2 hq ⟨v1, e1, v2, e2, v3, v4, e3, lv, a1, a2, e4, e5, c, e6, h⟩
      exact ⟨v1, e1, v2, e2, v3, v4, e3, lv, a1, a2, e4, e5, c, e6, hq _ _ h⟩
end
end L2.EH
end S_Q22
section S_Q23
set_option exponentiation.threshold 2000
set_option maxRecDepth 100000
set_option maxHeartbeats 4000000
namespace L2.EH
open PySem PySem.Spec PyProof.Rows StX
structure DueOk (L : LR) (m : Int) (E : List Int) (rs : List (List Int)) : Prop where
  easc : ∀ (j : Nat) x y, E[j]? = some x → E[j + 1]? = some y → x < y
  ein : ∀ z, z ∈ E → 0 ≤ z ∧ z < m
  rasc : ∀ (j : Nat) x y, rs[j]? = some x → rs[j + 1]? = some y → x < y
  len : ∀ r, r ∈ rs → r.length = L.heads.length
  rin : ∀ r, r ∈ rs → InB m r
  ends : ∀ r, r ∈ rs → dotp r L.heads % m ∈ E
  e : ∀ r, r ∈ rs → modRow (backOf L.even r) m ∈ rs
  o : ∀ r, r ∈ rs → modRow (backOf L.odd r) m ∈ rs
  told : modRow L.told m ∈ rs
def spDue (K : PySem.W.Frag) : Sp := fun vs H Q _ => ∃ (v : V) (L : LR) (n b : Nat) (m : Int) (e : Addr) (E : List Int) (c : V) (rs : List (List Int)), vs = [v, .int m, .ref e, c] ∧ Dp K H v (lawD L) ∧ LRB L n b ∧ 0 < m ∧ m ≤ 100 ∧ SqT K H e (E.map V.int) ∧ E.length ≤ 900 ∧ RowsT H c rs ∧ rs.length ≤ 900 ∧ (∀ r, r ∈ rs → r.length ≤ 900) ∧
  ∀ b : Bool, (b = true ↔ DueOk L m E rs) → ∀ H', Same H H' → Q (.bl b) H'
theorem scDue : FnScope ["_law_some", "_law_modulus_here", "_law_ends", "_law_rows", "_law_many", "_law_row_here", "_law_digit", "_law_j", "_law_item"] ["_law_some", "_law_modulus_here", "_law_ends", "_law_rows"] (defScope sDue) := ⟨rfl, rfl, rfl, by decide +kernel, rfl, by decide +kernel, by decide +kernel⟩
theorem lst_dp {K : PySem.W.Frag} {H : Hp} {a : Addr} {r : List Int} (h : H a = some (.lst (r.map V.int))) : Dp K H (.ref a) (.list (r.map .int)) := .lst (SqL.of h) (ints_dpAll r)
theorem shaped_ints (r : List Int) : SeqAt.shaped (.list (r.map .int)) = true := by
  unfold SeqAt.shaped
  rw [Bool.and_eq_true]
  refine ⟨by simpa [PyData.canLay0] using lay_ints r, decide_eq_true ?_⟩
  simp [PyData.depth, depth_ints r]
theorem eqv_nil (r : List Int) : PyData.eqv (.list (r.map .int)) (.list ([].map .int)) = decide (r = []) := by
  simp only [PyData.eqv]
  exact eqv_ints r []
section
variable {X : Cx} {K : PySem.W.Frag}
theorem op_rowGeK (e : X.K = K) (hu : X.A.units + 2 < cLine) : OpR X (compareOp .GtE) (rRowGe K) := by subst e; exact op_rowGe hu
end
/-- a list of those that fail, so far -/
def Fails (H : Hp) (D : Addr) (ok : Nat → Prop) (i : Nat) (Hc : Hp) : Prop := ∃ ns : List Int, Grow H D (ns.map V.int) Hc ∧ ns.length ≤ i ∧ (ns = [] ↔ ∀ j, j < i → ok j)
theorem Fails.start {H : Hp} {D : Addr} {ok : Nat → Prop} (nD : H D = none) : Fails H D ok 0 (upd H D (.lst [])) := ⟨[], Grow.start nD, Nat.le_refl _, by simp⟩
theorem Fails.yes {H Hc : Hp} {D : Addr} {ok : Nat → Prop} {i : Nat} (g : Fails H D ok i Hc) (h : ok i) : Fails H D ok (i + 1) Hc := by
  obtain ⟨ns, g1, g2, g3⟩ := g
  refine ⟨ns, g1, by omega, g3.trans ⟨fun f j hj => ?_, fun f j hj => f j (by omega)⟩⟩
  by_cases e : j < i
  · exact f j e
  · have : j = i := by omega
    rw [this]; exact h
theorem Fails.no {H Hc : Hp} {D : Addr} {ok : Nat → Prop} {i : Nat} {z : Int} {Nx : Hp → Prop} (nD : H D = none) (g : Fails H D ok i Hc) (hi : i ≤ 1000) (h : ¬ ok i) (hN : ∀ Hn, Fails H D ok (i + 1) Hn → Nx Hn) :
    ∃ acc, Hc D = some (.lst acc) ∧ acc.length < sizeLine ∧ Nx (upd Hc D (.lst (acc ++ [V.int z]))) := by
  obtain ⟨ns, g1, g2, g3⟩ := g
  refine ⟨_, g1.d, small1000 (by rw [List.length_map]; omega), hN _ ⟨ns ++ [z], ?_, by simp; omega, ?_⟩⟩
  · have := g1.step nD (V.int z)
    rw [List.map_append]; exact this
  · simp only [List.append_eq_nil_iff, List.cons_ne_self, and_false, false_iff]
    exact fun f => h (f i (by omega))
/-- the list of failures is compared with [] -/
theorem Fails.ne {K : PySem.W.Frag} {H Hc : Hp} {D : Addr} {ok : Nat → Prop} {n : Nat} {Q : VK} (g : Fails H D ok n Hc) (h : ∀ Hn b, Same H Hn → (b = true ↔ ¬ ∀ j, j < n → ok j) → Q (.bl b) Hn) : (tLst tNil) ([] : L2.St) Hc (fun y H1 => rNeD K (.ref D) y H1 Q) := by
  obtain ⟨ns, g1, g2, g3⟩ := g
  refine ⟨by show 0 ≤ sizeLine; decide, fun l nl => ⟨.list (ns.map .int), .list ([].map .int), ?_, lst_dp upd_same, shaped_ints ns, shaped_ints [], ?_⟩⟩
  · exact lst_dp (by rw [upd_ne (ne_of_none g1.d nl)]; exact g1.d)
  · refine h _ _ (g1.s.trans (same_new nl)) ?_
    rw [eqv_nil]
    by_cases e : ns = []
    · rw [decide_eq_true e]
      exact ⟨fun z => by (cases z), fun z => absurd (g3.1 e) z⟩
    · rw [decide_eq_false e]
      exact ⟨fun _ f => e (g3.2 f), fun _ => rfl⟩
section
variable {P : Program} {w : World} {K : PySem.W.Frag} {mg : Str → Option Value} {base : Heap}
theorem ok_due {f fR fB fI : Addr} {fd fdR fdB fdI : FuncData} (F : Fun K "_law_due" "_law_due" sDue f fd) (B : BN mg) (FR : Fn' P w K mg base 1 "_law_rested" fR fdR ["_law_row_here", "_law_modulus_here"] (spRested K))
    (FB : Fn' P w K mg base 2 "_law_back" fB fdB ["_law_some", "_law_row_here", "_law_digit", "_law_modulus_here"] (spBack K)) (FI : Fn' P w K mg base 1 "_law_image" fI fdI ["_law_rows", "_law_worths"] (spImage K)) :
    FnOk P w K mg base CX0 3 f fd ["_law_some", "_law_modulus_here", "_law_ends", "_law_rows"] (spDue K) := by
  refine F.ok scDue (fun vs H Q E h => ?_) (fun cdv A outer s H vs Q E hr h => ?_)
  · obtain ⟨v, L, n, b, m, e, EE, c, rs, rfl, _⟩ := h
    rfl
  · obtain ⟨v, L, n, b, m, e, EE, c, rs, rfl, hd, hB, hm0, hm100, hE, hEl, hR, hRl, hRr, k⟩ := h
    obtain ⟨sa, ea, oa, dd, t, rfl, hs, he, ho, hh, ht⟩ := law_parts hd
    obtain ⟨ca, ts, rfl, hca, htl, htr⟩ := hR.ex
    have nd := scDue.nd
    have hu := hu_of hr
    have hu2 : (A.deeper (envOfC (Str.ofString "_law_due") (defScope sDue) s.heap.objs.size f cdv)).units + 64 < cLine := hr.units
    have hu3 : (A.deeper (envOfC (Str.ofString "_law_due") (defScope sDue) s.heap.objs.size f cdv)).units + 2 < cLine := by omega
    have hu4 : (A.deeper (envOfC (Str.ofString "_law_due") (defScope sDue) s.heap.objs.size f cdv)).units + 4 < cLine := by omega
    refine ⟨_, pss_cons (ps_set (i := 4) nd rfl (Or.inl rfl) (pe_callB call_len (by rfl) B.len boot_len (pa_cons (pe_ix ix_tup (pv 0) pe_int (fun _ _ => rfl)) pa_nil)))
      (pss_cons (ps_if (pt_cmpR (op_neD hu2) (pe_lc (own := [("_law_j", 7)]) (g := gName 7) rfl nd (pi_range2 (by rfl) B.range (pa_cons pe_int (pa_cons (pe_callB call_len (by rfl) B.len boot_len (pa_cons (pv 2) pa_nil)) pa_nil))) (blkOk_by (own := [("_law_j", 7)]) (N := ["_law_some", "_law_modulus_here", "_law_ends", "_law_rows", "_law_many", "_law_row_here", "_law_digit", "_law_j", "_law_item"]) (sc := defScope sDue) (by decide +kernel))
          (fun _ _ _ _ _ => pg_name (i := 7) nd rfl (Or.inl rfl) (Or.inr rfl)) (fun _ _ _ _ _ => pts_one (pt_cmpR op_ge (pe_ix (ix_seqK (K := K) rfl) (pv 2) (pe_op op_sub (pv 7) pe_int) (fun _ _ => rfl)) (pe_ix (ix_seqK (K := K) rfl) (pv 2) (pv 7) (fun _ _ => rfl)) (by rfl))) (fun _ _ _ _ _ => pv 7)) (pe_lst pa_nil) (by rfl)) (pss_one (ps_ret pe_bl)) pss_nil)
      (pss_cons (ps_if (pt_cmpR (op_neD hu2) (pe_lc (own := [("_law_item", 8)]) (g := gName 8) rfl nd (pi_tup (pv 2)) (blkOk_by (own := [("_law_item", 8)]) (N := ["_law_some", "_law_modulus_here", "_law_ends", "_law_rows", "_law_many", "_law_row_here", "_law_digit", "_law_j", "_law_item"]) (sc := defScope sDue) (by decide +kernel))
          (fun _ _ _ _ _ => pg_name (i := 8) nd rfl (Or.inl rfl) (Or.inr rfl)) (fun _ _ _ _ _ => pts_one (pt_not (pt_chain op_le op_lt pe_int (pv 8) (pv 1)))) (fun _ _ _ _ _ => pv 8)) (pe_lst pa_nil) (by rfl)) (pss_one (ps_ret pe_bl)) pss_nil)
      (pss_cons (ps_if (pt_cmpR (op_neD hu2) (pe_lc (own := [("_law_j", 7)]) (g := gName 7) rfl nd (pi_range2 (by rfl) B.range (pa_cons pe_int (pa_cons (pe_callB call_len (by rfl) B.len boot_len (pa_cons (pv 3) pa_nil)) pa_nil))) (blkOk_by (own := [("_law_j", 7)]) (N := ["_law_some", "_law_modulus_here", "_law_ends", "_law_rows", "_law_many", "_law_row_here", "_law_digit", "_law_j", "_law_item"]) (sc := defScope sDue) (by decide +kernel))
          (fun _ _ _ _ _ => pg_name (i := 7) nd rfl (Or.inl rfl) (Or.inr rfl)) (fun _ _ _ _ _ => pts_one (pt_cmpR (op_rowGeK (K := K) rfl (by exact hu3)) (pe_ix (ix_seqK (K := K) rfl) (pv 3) (pe_op op_sub (pv 7) pe_int) (fun _ _ => rfl)) (pe_ix (ix_seqK (K := K) rfl) (pv 3) (pv 7) (fun _ _ => rfl)) (by rfl))) (fun _ _ _ _ _ => pv 7)) (pe_lst pa_nil) (by rfl)) (pss_one (ps_ret pe_bl)) pss_nil)
      (pss_cons (ps_for PassesOwn.never rfl (pi_tup (pv 3)) (pg_name (i := 5) nd rfl (Or.inl rfl))
        (pss_cons (ps_if (PW.pt (pw_or (pt_cmpR op_ne (pe_callB call_len (by rfl) B.len boot_len (pa_cons (pv 5) pa_nil)) (pv 4) (nomark _)) (pw_or1 (pt_cmpR (op_neD hu2) (pe_lc (own := [("_law_item", 8)]) (g := gName 8) rfl nd (pi_tup (pv 5)) (blkOk_by (own := [("_law_item", 8)]) (N := ["_law_some", "_law_modulus_here", "_law_ends", "_law_rows", "_law_many", "_law_row_here", "_law_digit", "_law_j", "_law_item"]) (sc := defScope sDue) (by decide +kernel))
            (fun _ _ _ _ _ => pg_name (i := 8) nd rfl (Or.inl rfl) (Or.inr rfl)) (fun _ _ _ _ _ => pts_one (pt_not (pt_chain op_le op_lt pe_int (pv 8) (pv 1)))) (fun _ _ _ _ _ => pv 8)) (pe_lst pa_nil) (by rfl))))) (pss_one (ps_ret pe_bl)) pss_nil)
        (pss_cons (ps_if (pt_cmpR op_notIn_seq (pe_op op_mod (pe_callTy call_int1 (by rfl) B.int (by decide +kernel) (pa_cons (pe_ix ix_list (pe_call FI.ok (by exact hr.mono (by decide)) (by rfl) FI.m FI.k FI.b .nil pass0 (pa_cons (pe_lst (pa_cons (pv 5) pa_nil)) (pa_cons (pe_ix ix_tup (pv 0) pe_int (fun _ _ => rfl)) pa_nil))) pe_int (fun _ _ => rfl)) pa_nil)) (pv 1)) (pv 2) (by rfl)) (pss_one (ps_ret pe_bl)) pss_nil)
        (pss_one (ps_for PassesOwn.never rfl (pi_range1 (by rfl) B.range (pa_cons pe_int pa_nil)) (pg_name (i := 6) nd rfl (Or.inl rfl))
          (pss_one (ps_if (pt_cmpR (op_rowNotIn hu4) (pe_call FB.ok (by exact hr) (by rfl) FB.m FB.k FB.b .nil pass0 (pa_cons (pv 0) (pa_cons (pv 5) (pa_cons (pv 6) (pa_cons (pv 1) pa_nil))))) (pv 3) (by rfl)) (pss_one (ps_ret pe_bl)) pss_nil)))))))
      (pss_one (ps_ret (pe_cmpR (op_rowIn hu4) (pe_call FR.ok (by exact hr.mono (by decide)) (by rfl) FR.m FR.k FR.b .nil pass0 (pa_cons (pe_ix ix_tup (pv 0) pe_int (fun _ _ => rfl)) (pa_cons (pv 1) pa_nil))) (pv 3) (by rfl)))))))), ?_⟩
    have no : ∀ H', Same H H' → ¬ DueOk L m EE rs → Q (.bl false) H' := fun H' s' h => k false ⟨(fun z => by cases z), fun z => absurd z h⟩ H' s'
    have sh := Same.refl H
    refine ⟨_, rfl, sa, _, 2, .ref dd, rfl, rfl, hs, rfl, _, _, rfl, .inr ⟨_, hh, rfl⟩, ?_⟩
    have eW : ((L.heads.map V.int).length : Int) = (n : Int) := by rw [List.length_map, hB.h.1]
    rw [eW]
    have hn900 := hB.few
    -- the order of the ends
    refine ⟨_, rfl, _, _, rfl, .inr ⟨_, hE, rfl⟩, 1, _, rfl, ⟨by decide, by decide, by omega, by rw [List.length_map]; omega⟩, fun D1 nD1 => ?_⟩
    have e1 : (((EE.map V.int).length : Int) - 1).toNat = EE.length - 1 := by rw [List.length_map]; omega
    rw [e1]
    refine lc_out (walk_range (lo := 1) (n := EE.length - 1)) (Fails H D1 fun j => ∀ x y, EE[j]? = some x → EE[j + 1]? = some y → x < y) (Fails.start nD1) (fun _ _ _ _ => trivial) ?_ ?_
    · rintro i x H0 Hc hi g ⟨rfl, rfl⟩
      have h1 : i < EE.length := by omega
      have h2 : i + 1 < EE.length := by omega
      have q1 : (EE.map V.int)[i]? = some (V.int EE[i]) := by rw [List.getElem?_map, List.getElem?_eq_getElem h1]; rfl
      have q2 : (EE.map V.int)[i + 1]? = some (V.int EE[i + 1]) := by rw [List.getElem?_map, List.getElem?_eq_getElem h2]; rfl
      have hEc := same_tup g.choose_spec.1.s hE
      refine ⟨rfl, _, rfl, _, rfl, _, _, rfl, rfl, (SqK.ofT hEc).ix (by rw [show (1 : Int) + (i : Nat) - 1 = (i : Nat) by omega]; exact atI_nat q1) ⟨_, rfl, _, rfl, (SqK.ofT hEc).ix (by rw [show (1 : Int) + (i : Nat) = ((i + 1 : Nat) : Int) by omega]; exact atI_nat q2) ⟨_, _, rfl, rfl, _, rfl, ?_⟩⟩⟩
      by_cases hlt : EE[i] < EE[i + 1]
      · refine iteF' (decide_eq_false (by omega)) (g.yes fun x y a1 a2 => ?_)
        rw [List.getElem?_eq_getElem h1] at a1
        rw [List.getElem?_eq_getElem h2] at a2
        cases a1; cases a2; exact hlt
      · refine iteT' (decide_eq_true (by omega)) ⟨_, rfl, g.no nD1 (by omega) (fun f => hlt (f _ _ (List.getElem?_eq_getElem h1) (List.getElem?_eq_getElem h2))) fun _ z => z⟩
    intro H1 g1
    refine g1.ne fun H2 b2 s2 hb2 => ⟨_, rfl, ?_⟩
    by_cases c1 : ∀ j, j < EE.length - 1 → ∀ x y, EE[j]? = some x → EE[j + 1]? = some y → x < y
    case neg =>
      rw [hb2.2 c1]
      exact iteT (no _ s2 fun z => c1 fun j _ x y => z.easc j x y)
    have : b2 = false := by rw [Bool.eq_false_iff]; exact fun z => hb2.1 z c1
    subst this
    refine iteF ?_
    -- the ends themselves
    have hE2 := same_tup s2 hE
    refine ⟨_, rfl, e, rfl, ⟨_, hE2⟩, fun D3 nD3 => ?_⟩
    refine lc_out (walk_tup (xs := EE.map V.int)) (Fails H2 D3 fun j => ∀ z, EE[j]? = some z → 0 ≤ z ∧ z < m) (Fails.start nD3) (fun i Hc _ g => same_tup g.choose_spec.1.s hE2) ?_ ?_
    · rintro i x H0 Hc hi g ⟨rfl, hx'⟩
      rw [List.getElem?_map] at hx'
      cases ez : EE[i]? with
      | none => rw [ez] at hx'; cases hx'
      | some z =>
        rw [ez] at hx'
        cases hx'
        have hil := (List.getElem?_eq_some_iff.1 ez).1
        refine ⟨rfl, _, rfl, _, _, rfl, rfl, _, rfl, ?_⟩
        by_cases h0 : 0 ≤ z
        · refine iteT' (decide_eq_true h0) ⟨_, rfl, _, _, rfl, rfl, _, rfl, ?_⟩
          by_cases h1 : z < m
          · refine iteF' (by rw [decide_eq_true h1]; rfl) (g.yes fun z' a1 => ?_)
            rw [ez] at a1; cases a1; exact ⟨h0, h1⟩
          · refine iteT' (by rw [decide_eq_false h1]; rfl) ⟨_, rfl, g.no nD3 (by omega) (fun f => h1 (f z ez).2) fun _ z => z⟩
        · refine iteF' (decide_eq_false h0) ⟨_, rfl, iteT ⟨_, rfl, g.no nD3 (by omega) (fun f => h0 (f z ez).1) fun _ z => z⟩⟩
    intro H3 g3
    refine g3.ne fun H4 b4 s4 hb4 => ⟨_, rfl, ?_⟩
    rw [List.length_map] at hb4
    have s04 := s2.trans s4
    by_cases c2 : ∀ j, j < EE.length → ∀ z, EE[j]? = some z → 0 ≤ z ∧ z < m
    case neg =>
      rw [hb4.2 c2]
      exact iteT (no _ s04 fun z => c2 fun j _ y hy => z.ein y (List.mem_of_getElem? hy))
    have : b4 = false := by rw [Bool.eq_false_iff]; exact fun z => hb4.1 z c2
    subst this
    refine iteF ?_
    -- the order of the rows
    have hR4 := hR.same s04
    have hca4 := s04 _ _ hca
    have tl : (ts.map V.ref).length = rs.length := by rw [List.length_map, htl]
    refine ⟨_, rfl, _, _, rfl, .inr ⟨_, SqT.of hca4, rfl⟩, 1, _, rfl, ⟨by decide, by decide, by omega, by rw [tl]; omega⟩, fun D5 nD5 => ?_⟩
    have e5 : (((ts.map V.ref).length : Int) - 1).toNat = rs.length - 1 := by rw [tl]; omega
    rw [e5]
    refine lc_out (walk_range (lo := 1) (n := rs.length - 1)) (Fails H4 D5 fun j => ∀ x y, rs[j]? = some x → rs[j + 1]? = some y → x < y) (Fails.start nD5) (fun _ _ _ _ => trivial) ?_ ?_
    · rintro i x H0 Hc hi g ⟨rfl, rfl⟩
      have h1 : i < rs.length := by omega
      have h2 : i + 1 < rs.length := by omega
      have t1 : i < ts.length := by omega
      have t2 : i + 1 < ts.length := by omega
      have q1 : (ts.map V.ref)[i]? = some (V.ref ts[i]) := by rw [List.getElem?_map, List.getElem?_eq_getElem t1]; rfl
      have q2 : (ts.map V.ref)[i + 1]? = some (V.ref ts[i + 1]) := by rw [List.getElem?_map, List.getElem?_eq_getElem t2]; rfl
      have gs := s04.trans g.choose_spec.1.s
      have hcc := gs _ _ hca
      have r1 := row_dp (K := K) (SqT.of (gs _ _ (htr i _ _ (List.getElem?_eq_getElem t1) (List.getElem?_eq_getElem h1))))
      have r2 := row_dp (K := K) (SqT.of (gs _ _ (htr (i + 1) _ _ (List.getElem?_eq_getElem t2) (List.getElem?_eq_getElem h2))))
      refine ⟨rfl, _, rfl, _, rfl, _, _, rfl, rfl, (SqK.ofT (SqT.of hcc)).ix (by rw [show (1 : Int) + (i : Nat) - 1 = (i : Nat) by omega]; exact atI_nat q1) ⟨_, rfl, _, rfl, (SqK.ofT (SqT.of hcc)).ix (by rw [show (1 : Int) + (i : Nat) = ((i + 1 : Nat) : Int) by omega]; exact atI_nat q2) ⟨_, _, r1, r2, _, rfl, ?_⟩⟩⟩
      by_cases hlt : rs[i] < rs[i + 1]
      · refine iteF' (by rw [decide_eq_true hlt]; rfl) (g.yes fun x y a1 a2 => ?_)
        rw [List.getElem?_eq_getElem h1] at a1
        rw [List.getElem?_eq_getElem h2] at a2
        cases a1; cases a2; exact hlt
      · refine iteT' (by rw [decide_eq_false hlt]; rfl) ⟨_, rfl, g.no nD5 (by omega) (fun f => hlt (f _ _ (List.getElem?_eq_getElem h1) (List.getElem?_eq_getElem h2))) fun _ z => z⟩
    intro H5 g5
    refine g5.ne fun H6 b6 s6 hb6 => ⟨_, rfl, ?_⟩
    have s06 := s04.trans s6
    by_cases c3 : ∀ j, j < rs.length - 1 → ∀ x y, rs[j]? = some x → rs[j + 1]? = some y → x < y
    case neg =>
      rw [hb6.2 c3]
      exact iteT (no _ s06 fun z => c3 fun j _ x y => z.rasc j x y)
    have : b6 = false := by rw [Bool.eq_false_iff]; exact fun z => hb6.1 z c3
    subst this
    refine iteF ?_
    have hca6 := s06 _ _ hca
    -- the rows
    refine ⟨_, rfl, ca, rfl, ⟨_, SqT.of hca6⟩, ?_⟩
    refine for_it (walk_tup (xs := ts.map V.ref)) (fun i σ Hc => Same H6 Hc ∧ (∀ (j : Nat) r, j < i → rs[j]? = some r → r.length = n ∧ InB m r ∧ dotp r L.heads % m ∈ EE ∧ ∀ c : Nat, c < 2 → modRow (backOf (halfOf L (0 + (c : Int))) r) m ∈ rs) ∧
        ∃ x5 x6, σ = [some (.ref sa), some (.int m), some (.ref e), some (.ref ca), some (.int (n : Int)), x5, x6, none, none])
      ⟨Same.refl _, fun j r h => absurd h (Nat.not_lt_zero _), none, none, rfl⟩ (fun i σ Hc _ h => SqT.of (h.1 _ _ hca6)) ?_ ?_
    · rintro i x σ H0 Hc hi ⟨s7, hc, x5, x6, rfl⟩ ⟨rfl, hx'⟩
      rw [List.getElem?_map] at hx'
      cases et : ts[i]? with
      | none => rw [et] at hx'; cases hx'
      | some ti =>
        rw [et] at hx'
        cases hx'
        have hir : i < rs.length := by rw [← htl]; exact (List.getElem?_eq_some_iff.1 et).1
        have er : rs[i]? = some rs[i] := List.getElem?_eq_getElem hir
        have hrm := List.getElem_mem hir
        have htt0 := htr i ti _ et er
        have hrl := hRr _ hrm
        generalize hri : rs[i] = r at *
        have s07 := s06.trans s7
        have htt := s07 _ _ htt0
        refine ⟨_, rfl, _, _, rfl, .inr ⟨_, SqT.of htt, rfl⟩, _, rfl, rfl, _, rfl, ?_⟩
        by_cases hw : r.length = n
        case neg => exact iteT' (by simp; omega) (no _ s07 fun z => hw (by rw [z.len r hrm, hB.h.1]))
        refine iteF' (by simp [hw]) ?_
        refine ⟨_, rfl, ti, rfl, ⟨_, SqT.of htt⟩, fun D8 nD8 => ?_⟩
        refine lc_out (walk_tup (xs := r.map V.int)) (Fails Hc D8 fun j => ∀ z, r[j]? = some z → 0 ≤ z ∧ z < m) (Fails.start nD8) (fun i Hc _ g => same_tup g.choose_spec.1.s (SqT.of htt)) ?_ ?_
        · rintro j y H9 Hd hj g ⟨rfl, hy⟩
          rw [List.getElem?_map] at hy
          cases ez : r[j]? with
          | none => rw [ez] at hy; cases hy
          | some z =>
            rw [ez] at hy
            cases hy
            have hil := (List.getElem?_eq_some_iff.1 ez).1
            refine ⟨rfl, _, rfl, _, _, rfl, rfl, _, rfl, ?_⟩
            by_cases h0 : 0 ≤ z
            · refine iteT' (decide_eq_true h0) ⟨_, rfl, _, _, rfl, rfl, _, rfl, ?_⟩
              by_cases h1 : z < m
              · refine iteF' (by rw [decide_eq_true h1]; rfl) (g.yes fun z' a1 => ?_)
                rw [ez] at a1; cases a1; exact ⟨h0, h1⟩
              · refine iteT' (by rw [decide_eq_false h1]; rfl) ⟨_, rfl, g.no nD8 (by omega) (fun f => h1 (f z ez).2) fun _ z => z⟩
            · refine iteF' (decide_eq_false h0) ⟨_, rfl, iteT ⟨_, rfl, g.no nD8 (by omega) (fun f => h0 (f z ez).1) fun _ z => z⟩⟩
        intro Hd gd
        refine gd.ne fun He be se hbe => ⟨_, rfl, ?_⟩
        rw [List.length_map] at hbe
        have s08 := s07.trans se
        by_cases c8 : ∀ j, j < r.length → ∀ z, r[j]? = some z → 0 ≤ z ∧ z < m
        case neg =>
          rw [hbe.2 c8]
          exact iteT (no _ s08 fun z => c8 fun j _ y hy => z.rin r hrm y (List.mem_of_getElem? hy))
        have : be = false := by rw [Bool.eq_false_iff]; exact fun z => hbe.1 z c8
        subst this
        refine iteF ?_
        have hin : InB m r := fun z hz => by
          obtain ⟨j, hj, ej⟩ := List.getElem_of_mem hz
          exact c8 j hj z (by rw [List.getElem?_eq_getElem hj, ej])
        have hz20 : ∀ z, z ∈ r → z.natAbs < 2 ^ 20 := fun z hz => by
          have := hin z hz
          have e20 : (2 : Nat) ^ 20 = 1048576 := by decide
          omega
        have htte := se _ _ htt
        -- its end
        refine ⟨_, rfl, by show 1 ≤ sizeLine; decide, fun l2 nl2 => ?_⟩
        have sl := same_new (o := .lst [V.ref ti]) nl2
        have hl2 : (upd He l2 (.lst [V.ref ti])) l2 = some (.lst [V.ref ti]) := upd_same
        refine ⟨_, rfl, sa, _, 2, .ref dd, rfl, rfl, same_tup (s08.trans sl) hs, rfl, l2, dd, false, true, [V.ref ti], [r], L.heads, 20, b, rfl, SqK.ofL hl2, ⟨rfl, fun j x r' q1 q2 => ?_⟩, SqK.ofT (same_tup (s08.trans sl) hh), by show 1 ≤ 900; decide, by rw [hB.h.1]; exact hn900, fun r' hr' => ?_, hB.h.2, by decide, hB.bits.1, by have := hB.bits; omega, fun Hf p3 s3 np3 hp3 => ?_⟩
        · match j with
          | 0 => cases q1; cases q2; exact ⟨ti, true, rfl, SqK.ofT (SqT.of (sl _ _ htte))⟩
          | j + 1 => cases q1
        · rw [List.mem_singleton.1 hr']
          exact ⟨by rw [hw, hB.h.1], hz20⟩
        have s09 := (s08.trans sl).trans s3
        refine ⟨p3, _, 0, _, rfl, rfl, SqL.of hp3, rfl, .inl ⟨_, rfl, _, rfl, _, _, rfl, rfl, hm0, _, rfl, e, _, rfl, .inr (same_tup s09 hE), rfl, flat_ints EE, _, rfl, ?_⟩⟩
        rw [if_pos rfl, inV_ints]
        by_cases hen : dotp r L.heads % m ∈ EE
        case neg => exact iteT' (by rw [decide_eq_false hen]; rfl) (no _ s09 fun z => hen (z.ends r hrm))
        refine iteF' (by rw [decide_eq_true hen]; rfl) ?_
        have s69 : Same H6 Hf := ((s7.trans se).trans sl).trans s3
        -- what it becomes
        refine ⟨(2 : Int), rfl, by decide, by decide, ?_⟩
        refine for_range (lo := 0) (n := 2) (fun c σ' H' => Same H6 H' ∧ (∀ c' : Nat, c' < c → modRow (backOf (halfOf L (0 + (c' : Int))) r) m ∈ rs) ∧ ∃ x6, σ' = [some (.ref sa), some (.int m), some (.ref e), some (.ref ca), some (.int (n : Int)), some (.ref ti), x6, none, none])
          ⟨s69, fun c h => absurd h (Nat.not_lt_zero _), x6, rfl⟩ ?_ ?_
        · rintro c σ' H' hc2 ⟨s10, hcc, y6, rfl⟩
          have s0x := s06.trans s10
          refine ⟨_, rfl, _, rfl, _, rfl, _, rfl, .ref sa, L, n, b, ti, r, 0 + (c : Int), m, rfl, dp_same s0x hd, hB, SqT.of (s0x _ _ htt0), hw, hz20, by omega, hm0, fun H11 q s11 nq hq => ?_⟩
          have s0y := s0x.trans s11
          refine ⟨_, rfl, _, rs, row_dp (SqT.of hq), (hR.same s0y).dp, _, rfl, ?_⟩
          by_cases hbk : modRow (backOf (halfOf L (0 + (c : Int))) r) m ∈ rs
          · refine iteF' (by rw [if_pos rfl, decide_eq_true hbk]; rfl) ⟨s10.trans s11, fun c' hc' => ?_, _, rfl⟩
            by_cases h : c' < c
            · exact hcc c' h
            · have : c' = c := by omega
              rw [this]; exact hbk
          · refine iteT' (by rw [if_pos rfl, decide_eq_false hbk]; rfl) (no _ s0y fun z => hbk ?_)
            match c, hc2 with
            | 0, _ => exact z.e r hrm
            | 1, _ => exact z.o r hrm
        · rintro σ' H' ⟨s10, hcc, y6, rfl⟩
          refine ⟨s10, fun j r' hj hr' => ?_, _, _, rfl⟩
          by_cases h : j < i
          · exact hc j r' h hr'
          · have : j = i := by omega
            subst this
            rw [er] at hr'
            cases hr'
            exact ⟨hw, hin, hen, hcc⟩
    rintro σ Hc ⟨s7, hc, x5, x6, rfl⟩
    rw [tl] at hc
    have s07 := s06.trans s7
    have all : ∀ r, r ∈ rs → r.length = n ∧ InB m r ∧ dotp r L.heads % m ∈ EE ∧ ∀ c : Nat, c < 2 → modRow (backOf (halfOf L (0 + (c : Int))) r) m ∈ rs := fun r hr => by
      obtain ⟨j, hj, ej⟩ := List.getElem_of_mem hr
      exact hc j r hj (by rw [List.getElem?_eq_getElem hj, ej])
    refine ⟨_, rfl, sa, _, 3, .ref t, rfl, rfl, same_tup s07 hs, rfl, _, rfl, t, true, L.told, m, rfl, SqK.ofT (same_tup s07 ht), hm0, by rw [hB.t.1]; exact hn900, fun H8 q s8 nq hq => ?_⟩
    refine ⟨_, rfl, _, rs, row_dp (SqT.of hq), (hR.same (s07.trans s8)).dp, ?_⟩
    rw [if_neg (by decide)]
    refine k _ ?_ _ (s07.trans s8)
    rw [decide_eq_true_iff]
    refine ⟨fun h => ⟨fun j x y a1 a2 => ?_, fun z hz => ?_, fun j x y a1 a2 => ?_, fun r hr => by rw [(all r hr).1, hB.h.1], fun r hr => (all r hr).2.1, fun r hr => (all r hr).2.2.1, fun r hr => (all r hr).2.2.2 0 (by decide), fun r hr => (all r hr).2.2.2 1 (by decide), h⟩, fun z => z.told⟩
    · exact c1 j (by have := (List.getElem?_eq_some_iff.1 a2).1; omega) x y a1 a2
    · obtain ⟨j, hj, ej⟩ := List.getElem_of_mem hz
      exact c2 j hj z (by rw [List.getElem?_eq_getElem hj, ej])
    · exact c3 j (by have := (List.getElem?_eq_some_iff.1 a2).1; omega) x y a1 a2
end
end L2.EH
end S_Q23
section S_Q24
set_option exponentiation.threshold 2000
set_option maxRecDepth 100000
set_option maxHeartbeats 4000000
namespace L2.EH
open PySem PySem.Spec PyProof.Rows StX
/-! ### _law_bent: other rows, whatever they are -/
def GoodV (H : Hp) (N : Nat) (v : V) : Prop := ∃ (t : Addr) (r : List Int), v = .ref t ∧ H t = some (.tup (r.map V.int)) ∧ r.length ≤ N
theorem GoodV.same {H H' : Hp} {N : Nat} {v : V} (s : KeepT H H') (h : GoodV H N v) : GoodV H' N v := by
  obtain ⟨t, r, e, h1, h2⟩ := h
  exact ⟨t, r, e, s _ _ h1 rfl, h2⟩
theorem cutV_mem {xs : List V} {lo hi : Option Int} {v : V} (h : v ∈ cutV xs lo hi) : v ∈ xs := List.mem_of_mem_drop (List.mem_of_mem_take h)
theorem good_rows {H : Hp} {N : Nat} : ∀ vs : List V, (∀ v, v ∈ vs → GoodV H N v) → ∃ (ts : List Addr) (rs : List (List Int)), vs = ts.map V.ref ∧ ts.length = rs.length ∧ (∀ (i : Nat) t r, ts[i]? = some t → rs[i]? = some r → H t = some (.tup (r.map V.int))) ∧ ∀ r, r ∈ rs → r.length ≤ N
  | [], _ => ⟨[], [], rfl, rfl, fun i t r h => by simp at h, fun r h => by cases h⟩
  | v :: vs, h => by
    obtain ⟨t, r, rfl, h1, h2⟩ := h v (List.mem_cons_self ..)
    obtain ⟨ts, rs, rfl, h3, h4, h5⟩ := good_rows vs fun x hx => h x (List.mem_cons_of_mem _ hx)
    refine ⟨t :: ts, r :: rs, rfl, by simp [h3], fun i t' r' e1 e2 => ?_, fun r' hr => ?_⟩
    · match i with
      | 0 => cases e1; cases e2; exact h1
      | i + 1 => exact h4 i t' r' (by simpa using e1) (by simpa using e2)
    · rcases List.mem_cons.1 hr with rfl | hr
      · exact h2
      · exact h5 r' hr
theorem good_tup {H : Hp} {N : Nat} {vs : List V} {q : Addr} (h : ∀ v, v ∈ vs → GoodV H N v) (hq : H q = some (.tup vs)) : ∃ rs, RowsT H (.ref q) rs ∧ rs.length = vs.length ∧ ∀ r, r ∈ rs → r.length ≤ N := by
  obtain ⟨ts, rs, rfl, h1, h2, h3⟩ := good_rows vs h
  exact ⟨rs, ⟨q, ts, rfl, hq, h1, h2⟩, by simp [h1], h3⟩
theorem cut_ints (ns : List Int) (lo hi : Option Int) : ∃ ms : List Int, cutV (ns.map V.int) lo hi = ms.map V.int ∧ ms.length ≤ ns.length := by
  refine ⟨(ns.drop (HT.sIx (ns.map V.int).length 0 lo)).take (HT.sIx (ns.map V.int).length (ns.map V.int).length hi - HT.sIx (ns.map V.int).length 0 lo), by unfold cutV; rw [List.map_take, List.map_drop], ?_⟩
  rw [List.length_take, List.length_drop]; omega
/-- t + u where both stand as tuples -/
theorem cat_tup {K : PySem.W.Frag} {H : Hp} {a b : Addr} {xs ys : List V} {Q : VK} (ha : H a = some (.tup xs)) (hb : H b = some (.tup ys)) (hl : xs.length + ys.length ≤ 1000) (k : ∀ H' r, Same H H' → H' r = some (.tup (xs ++ ys)) → Q (.ref r) H') : rCatA K (.ref a) (.ref b) H Q := by
  refine ⟨a, b, xs, ys, rfl, rfl, SqT.of ha, SqT.of hb, Nat.le_of_lt (small1000 hl), fun e => ?_, fun _ e => ?_, fun _ _ p np => ?_⟩
  · subst e; exact k H b (Same.refl H) hb
  · subst e; exact k H a (Same.refl H) (by rw [List.append_nil]; exact ha)
  · exact k _ p (same_new np) upd_same
def spBent (K : PySem.W.Frag) : Sp := fun vs H Q _ => ∃ (p c : Addr) (hi n : Nat) (m : Int) (rs : List (List Int)), vs = [.ref p, .ref c, .int m] ∧ Purse H p hi ∧ hi ≤ 10000 ∧ RowsT H (.ref c) rs ∧ 0 < rs.length ∧ rs.length ≤ 200 ∧ 0 < n ∧ n ≤ 2 ∧ (∀ r, r ∈ rs → r.length = n ∧ InB m r) ∧ 0 < m ∧ m ≤ 100 ∧
  ∀ rs' H' q, RowsT H' (.ref q) rs' → rs'.length ≤ 500 → (∀ r, r ∈ rs' → r.length ≤ 10) → Kept p H H' → Purse H' p (hi + 10) → Q (.ref q) H'
theorem scBent : FnScope ["_law_source_here", "_law_rows", "_law_modulus_here", "_law_spot", "_law_way", "_law_some", "_law_wide", "_law_more", "_law_j", "_law_place", "_law_by", "_law_row_here"] ["_law_source_here", "_law_rows", "_law_modulus_here"] (defScope sBent) := ⟨rfl, rfl, rfl, by decide +kernel, rfl, by decide +kernel, by decide +kernel⟩
section
variable {P : Program} {w : World} {K : PySem.W.Frag} {mg : Str → Option Value} {base : Heap}
theorem ok_bent {f fD fA : Addr} {fd fdD fdA : FuncData} (F : Fun K "_law_bent" "_law_bent" sBent f fd) (B : BN mg) (FD : Fn' P w K mg base 1 "_law_draw" fD fdD ["_law_source_here", "_law_many"] spDraw)
    (FA : Fn' P w K mg base 1 "_law_ascending" fA fdA ["_law_rows"] (spAscending K)) : FnOk P w K mg base CX0 2 f fd ["_law_source_here", "_law_rows", "_law_modulus_here"] (spBent K) := by
  refine F.ok scBent (fun vs H Q E h => ?_) (fun cdv A outer s H vs Q E hr h => ?_)
  · obtain ⟨p, c, hi, n, m, rs, rfl, _⟩ := h
    rfl
  · obtain ⟨p, c, hi, n, m, rs, rfl, hp, hhi, hR, hl0, hl200, hn0, hn2, hrs, hm0, hm100, k⟩ := h
    obtain ⟨c', ts, ec, hc, htl, htr⟩ := hR.ex
    cases ec
    have nd := scBent.nd
    refine ⟨_, pss_cons (ps_par3 (i := 3) (j := 4) (l := 5) (by rfl) nd rfl rfl rfl (by decide) (by decide) (by decide) rfl rfl rfl (pa_cons (pe_call FD.ok (by exact hr) (by rfl) FD.m FD.k FD.b .nil pass0 (pa_cons (pv 0) (pa_cons (pe_callB call_len (by rfl) B.len boot_len (pa_cons (pv 1) pa_nil)) pa_nil))) (pa_cons (pe_call FD.ok (by exact hr) (by rfl) FD.m FD.k FD.b .nil pass0 (pa_cons (pv 0) (pa_cons pe_int pa_nil))) (pa_cons (pe_callTy call_list_of (by rfl) B.list (by decide +kernel) (pa_cons (pv 1) pa_nil)) pa_nil))) (by rfl))
      (pss_cons (ps_set (i := 6) nd rfl (Or.inl rfl) (pe_callB call_len (by rfl) B.len boot_len (pa_cons (pe_ix ix_tup (pv 1) pe_int (fun _ _ => rfl)) pa_nil)))
      (pss_cons (ps_if (pt_cmpR op_eq (pv 4) pe_int (nomark _)) (pss_one (ps_ret (pe_callTy call_tuple_of (by rfl) B.tuple (by decide +kernel) (pa_cons (pe_op op_cat (pe_slice sl_list (pv 5) po_none (po_some (pv 3))) (pe_slice sl_list (pv 5) (po_some (pe_op op_add (pv 3) pe_int)) po_none)) pa_nil)))) pss_nil)
      (pss_cons (ps_if (pt_cmpR op_eq (pv 4) pe_int (nomark _))
        (pss_cons (ps_set (i := 7) nd rfl (Or.inl rfl) (pe_callTy call_tuple_of (by rfl) B.tuple (by decide +kernel) (pa_cons (pe_lc (own := [("_law_j", 8)]) (g := gName 8) (tt := tYes) rfl nd (pi_range1 (by rfl) B.range (pa_cons (pv 6) pa_nil)) (blkOk_by (own := [("_law_j", 8)]) (N := ["_law_source_here", "_law_rows", "_law_modulus_here", "_law_spot", "_law_way", "_law_some", "_law_wide", "_law_more", "_law_j", "_law_place", "_law_by", "_law_row_here"]) (sc := defScope sBent) (by decide +kernel))
            (fun _ _ _ _ _ => pg_name (i := 8) nd rfl (Or.inl rfl) (Or.inr rfl)) (fun _ _ _ _ _ => pts_nil)
            (fun _ _ _ _ _ => pe_call FD.ok (by exact hr) (by rfl) FD.m FD.k FD.b .nil pass0 (pa_cons (pv 0) (pa_cons (pv 2) pa_nil)))) pa_nil)))
        (pss_one (ps_ret (pe_call FA.ok (by exact hr) (by rfl) FA.m FA.k FA.b .nil pass0 (pa_cons (pe_op op_cat (pv 5) (pe_lst (pa_cons (pv 7) pa_nil))) pa_nil))))) pss_nil)
      (pss_cons (ps_if (pt_cmpR op_eq (pv 4) pe_int (nomark _)) (pss_one (ps_ret (pe_callTy call_tuple_of (by rfl) B.tuple (by decide +kernel) (pa_cons (pe_op op_cat (pe_op op_cat (pe_slice sl_list (pv 5) po_none (po_some (pv 3))) (pe_lst (pa_cons (pe_ix ix_list (pv 5) (pv 3) (fun _ _ => rfl)) pa_nil))) (pe_slice sl_list (pv 5) (po_some (pv 3)) po_none)) pa_nil)))) pss_nil)
      (pss_cons (ps_if (pt_cmpR op_eq (pv 4) pe_int (nomark _)) (pss_one (ps_ret (pe_callTy call_tuple_of (by rfl) B.tuple (by decide +kernel) (pa_cons (pe_revL (pv 5)) pa_nil)))) pss_nil)
      (pss_cons (ps_par (i := 9) (j := 10) (by rfl) nd rfl rfl (by decide) rfl rfl (pa_cons (pe_call FD.ok (by exact hr) (by rfl) FD.m FD.k FD.b .nil pass0 (pa_cons (pv 0) (pa_cons (pv 6) pa_nil))) (pa_cons (pe_ix ix_list (pe_lst (pa_cons (pv 2) (pa_cons (pe_un un_neg (pv 2)) (pa_cons pe_int pa_nil)))) (pe_call FD.ok (by exact hr) (by rfl) FD.m FD.k FD.b .nil pass0 (pa_cons (pv 0) (pa_cons pe_int pa_nil))) (fun _ _ => rfl)) pa_nil)) (by rfl))
      (pss_cons (ps_set (i := 11) nd rfl (Or.inl rfl) (pe_op op_catA (pe_op op_catA (pe_slice sl_tup (pe_ix ix_list (pv 5) (pv 3) (fun _ _ => rfl)) po_none (po_some (pv 9))) (pe_tup (pa_cons (pe_op op_add (pe_ix ix_tup (pe_ix ix_list (pv 5) (pv 3) (fun _ _ => rfl)) (pv 9) (fun _ _ => rfl)) (pv 10)) pa_nil))) (pe_slice sl_tup (pe_ix ix_list (pv 5) (pv 3) (fun _ _ => rfl)) (po_some (pe_op op_add (pv 9) pe_int)) po_none)))
      (pss_cons (ps_if (pt_cmpR op_eq (pv 4) pe_int (nomark _)) (pss_one (ps_set (i := 11) nd rfl (Or.inl rfl) (pe_op op_catA (pe_ix ix_list (pv 5) (pv 3) (fun _ _ => rfl)) (pe_tup (pa_cons pe_int pa_nil))))) pss_nil)
      (pss_one (ps_ret (pe_callTy call_tuple_of (by rfl) B.tuple (by decide +kernel) (pa_cons (pe_op op_cat (pe_op op_cat (pe_slice sl_list (pv 5) po_none (po_some (pv 3))) (pe_lst (pa_cons (pv 11) pa_nil))) (pe_slice sl_list (pv 5) (po_some (pe_op op_add (pv 3) pe_int)) po_none)) pa_nil)))))))))))), ?_⟩
    have tl : (ts.map V.ref).length = rs.length := by rw [List.length_map, htl]
    refine ⟨_, rfl, _, rfl, _, _, rfl, .inr ⟨_, SqT.of hc, rfl⟩, p, hi, _, rfl, hp, by omega, by rw [tl]; omega, by rw [tl]; omega, fun spot H1 hs0 hs1 k1 hp1 => ?_⟩
    refine ⟨_, rfl, p, hi + 1, 6, rfl, hp1, by omega, by decide, by decide, fun way H2 hw0 hw1 k2 hp2 => ?_⟩
    rw [tl] at hs1
    have k02 := k1.trans k2
    have hc2 := k02.tup hp hc
    refine ⟨_, rfl, c, _, rfl, .inr (SqT.of hc2), fun ls nls => ⟨_, _, _, rfl, ?_⟩⟩
    have sl := same_new (o := .lst (ts.map V.ref)) nls
    have hls : (upd H2 ls (.lst (ts.map V.ref))) ls = some (.lst (ts.map V.ref)) := upd_same
    have k03 : Kept p H (upd H2 ls (.lst (ts.map V.ref))) := k02.trans (Same.kept sl)
    have p3 := hp2.same sl
    generalize upd H2 ls (.lst (ts.map V.ref)) = H3 at *
    have kT : KeepT H H3 := k03.keepT hp
    have gts : ∀ v, v ∈ ts.map V.ref → GoodV H3 10 v := fun v hv => by
      obtain ⟨t, ht, rfl⟩ := List.mem_map.1 hv
      obtain ⟨i, hi', e⟩ := List.getElem_of_mem ht
      have hir : i < rs.length := by omega
      have := htr i t rs[i] (by rw [List.getElem?_eq_getElem hi', e]) (List.getElem?_eq_getElem hir)
      exact ⟨t, _, rfl, kT _ _ this rfl, by have := (hrs _ (List.getElem_mem hir)).1; omega⟩
    have fin : ∀ (Hx : Hp) (vs : List V) (h' : Nat), (∀ v, v ∈ vs → GoodV Hx 10 v) → vs.length ≤ 500 → Kept p H Hx → Purse Hx p h' → h' ≤ hi + 10 → ∀ q, Hx q = none → Q (.ref q) (upd Hx q (.tup vs)) := fun Hx vs h' hg hl kx px hh q nq => by
      have sq := same_new (o := .tup vs) nq
      obtain ⟨rs', r1, r2, r3⟩ := good_tup (fun v hv => (hg v hv).same (keepT_same sq)) (upd_same (H := Hx) (a := q) (o := .tup vs))
      exact k rs' _ q r1 (by omega) r3 (kx.trans (Same.kept sq)) ((px.same sq).wide hh)
    -- the first row
    have h0r : rs[0]? = some rs[0] := List.getElem?_eq_getElem hl0
    have h0t : ts[0]? = some (ts[0]'(by omega)) := List.getElem?_eq_getElem (by omega)
    have ht0 := kT _ _ (htr 0 _ _ h0t h0r) rfl
    have hat0 : atI (ts.map V.ref) 0 = some (V.ref (ts[0]'(by omega))) := atI_nat (j := 0) (by rw [List.getElem?_map, h0t]; rfl)
    refine ⟨_, rfl, c, _, 0, _, rfl, rfl, SqT.of (kT _ _ hc rfl), hat0, _, _, rfl, .inr ⟨_, SqT.of ht0, rfl⟩, ?_⟩
    have ew : ((rs[0].map V.int).length : Int) = (n : Int) := by rw [List.length_map, (hrs _ (List.getElem_mem hl0)).1]
    rw [ew]
    obtain ⟨sp, rfl⟩ : ∃ sp : Nat, spot = (sp : Int) := ⟨spot.toNat, by omega⟩
    have hsp : sp < rs.length := by omega
    have hspr : rs[sp]? = some rs[sp] := List.getElem?_eq_getElem hsp
    have hspt : ts[sp]? = some (ts[sp]'(by omega)) := List.getElem?_eq_getElem (by omega)
    have htsp := kT _ _ (htr sp _ _ hspt hspr) rfl
    have hatsp : atI (ts.map V.ref) (sp : Int) = some (V.ref (ts[sp]'(by omega))) := atI_nat (by rw [List.getElem?_map, hspt]; rfl)
    have hrsp := hrs _ (List.getElem_mem hsp)
    generalize (ts[sp]'(by omega)) = tsp at *
    generalize rs[sp] = rsp at *
    have lcut : ∀ lo hi, (cutV (ts.map V.ref) lo hi).length ≤ 200 := fun lo hi => by have := cutV_length (ts.map V.ref) lo hi; omega
    refine ⟨_, rfl, rfl, _, rfl, ?_⟩
    by_cases w0 : way = 0
    · refine iteT' (by simp [w0]) ?_
      refine ⟨_, rfl, _, rfl, _, rfl, ls, _, rfl, SqL.of hls, fun a1 na1 => ?_⟩
      have s1 := same_new (o := .lst (cutV (ts.map V.ref) none (some (sp : Int)))) na1
      refine ⟨_, rfl, _, rfl, _, _, rfl, rfl, _, rfl, ls, _, rfl, SqL.of (s1 _ _ hls), fun a2 na2 => ?_⟩
      have s2 := same_new (o := .lst (cutV (ts.map V.ref) (some ((sp : Int) + 1)) none)) na2
      refine ⟨a1, a2, _, _, rfl, rfl, s2 _ _ upd_same, upd_same, by have := lcut none (some (sp : Int)); have := lcut (some ((sp : Int) + 1)) none; exact Nat.le_of_lt (small1000 (by omega)), fun a3 na3 => ⟨a3, _, rfl, .inl ⟨SqL.of upd_same, fun q nq => ?_⟩⟩⟩
      have s3 := same_new (o := .lst (cutV (ts.map V.ref) none (some (sp : Int)) ++ cutV (ts.map V.ref) (some ((sp : Int) + 1)) none)) na3
      have ss := (s1.trans s2).trans s3
      refine fin _ _ (hi + 2) (fun v hv => ?_) (by have := lcut none (some (sp : Int)); have := lcut (some ((sp : Int) + 1)) none; rw [List.length_append]; omega) (k03.trans (Same.kept ss)) (p3.same ss) (by omega) q nq
      refine (gts v ?_).same (keepT_same ss)
      rcases List.mem_append.1 hv with h | h <;> exact cutV_mem h
    refine iteF' (by simpa using w0) ?_
    refine ⟨_, rfl, rfl, _, rfl, ?_⟩
    by_cases w1 : way = 1
    · refine iteT' (by simp [w1]) ?_
      refine ⟨_, rfl, (n : Int), rfl, by omega, by omega, fun D nD => ?_⟩
      have en : ((n : Int).toNat) = n := by omega
      rw [en]
      have hDp : D ≠ p := fun e => by obtain ⟨_, _, _, h1, _⟩ := p3; rw [← e, nD] at h1; cases h1
      refine lc_out walk_range (fun i Hc => Kept p H3 Hc ∧ Purse Hc p (hi + 2 + i) ∧ ∃ r : List Int, r.length = i ∧ InB m r ∧ Hc D = some (.lst (r.map V.int))) ⟨Same.kept (same_new nD), p3.upd hDp, [], rfl, (fun z h => by cases h), upd_same⟩ (fun _ _ _ _ => trivial) ?_ ?_
      · rintro i x H0 Hc hi' ⟨kp, hpc, r, hrl, hrz, hD⟩ ⟨rfl, rfl⟩
        refine ⟨rfl, _, rfl, _, rfl, p, hi + 2 + i, m, rfl, hpc, by omega, hm0, by omega, fun d H' hd0 hd1 kp' hp' => ?_⟩
        have hD' := kp' _ _ hDp hD
        refine ⟨_, hD', small1000 (by rw [List.length_map]; omega), ?_, hp'.upd hDp, r ++ [d], by simp [hrl], fun z hz => ?_, by rw [upd_same, List.map_append]; rfl⟩
        · intro b o hb ho
          rw [upd_ne (ne_of_none ho nD)]
          exact kp' b o hb (kp b o hb ho)
        · rcases List.mem_append.1 hz with h | h
          · exact hrz z h
          · rw [List.mem_singleton.1 h]; exact ⟨hd0, hd1⟩
      · rintro Hc ⟨kp, hpc, r, hrl, hrz, hD⟩
        refine ⟨D, _, rfl, .inl ⟨SqL.of hD, fun q1 nq1 => ?_⟩⟩
        have sq := same_new (o := .tup (r.map V.int)) nq1
        have hq1 : (upd Hc q1 (.tup (r.map V.int))) q1 = some (.tup (r.map V.int)) := upd_same
        have hlp : ls ≠ p := p3.ne hls (fun a b c e => by cases hts : ts.map V.ref with
          | nil => rw [hts] at tl; simp at tl; omega
          | cons x xs => rw [hts] at e; obtain ⟨y, ys, e2⟩ : ∃ y ys, ts = y :: ys := by
                           cases ts with
                           | nil => simp at hts
                           | cons y ys => exact ⟨y, ys, rfl⟩
                         rw [e2] at hts; injection hts with h1 h2; rw [← h1] at e; injection e with e; injection e with e; cases e)
        have hlsq := sq _ _ (kp _ _ hlp hls)
        have pq := hpc.same sq
        have kq := kp.trans (Same.kept sq)
        generalize upd Hc q1 (.tup (r.map V.int)) = Hq at *
        refine ⟨_, rfl, _, rfl, by show 1 ≤ sizeLine; decide, fun l1 nl1 => ?_⟩
        have s1 := same_new (o := .lst [V.ref q1]) nl1
        refine ⟨ls, l1, _, _, rfl, rfl, s1 _ _ hlsq, upd_same, Nat.le_of_lt (small1000 (by show (ts.map V.ref).length + 1 ≤ 1000; omega)), fun a3 na3 => ?_⟩
        have s3 := same_new (o := .lst (ts.map V.ref ++ [V.ref q1])) na3
        have ss := s1.trans s3
        have kqT : KeepT H3 Hq := kq.keepT p3
        refine ⟨a3, ts ++ [q1], rs ++ [r], n, rfl, ⟨by rw [List.map_append]; exact upd_same, by simp [htl], fun i t' r' h1 h2 => ?_⟩, by simp; omega, by omega, fun r' hr' => ?_, fun H' q rs' s5 nq hR' hasc hiff hlen => ?_⟩
        · by_cases hj : i < ts.length
          · rw [List.getElem?_append_left hj] at h1
            rw [List.getElem?_append_left (by omega)] at h2
            exact ss _ _ (kqT _ _ (kT _ _ (htr i t' r' h1 h2) rfl) rfl)
          · have hj2 : i = ts.length := by
              have := (List.getElem?_eq_some_iff.1 h1).1
              simp at this; omega
            rw [List.getElem?_append_right (by omega), hj2, Nat.sub_self] at h1
            rw [List.getElem?_append_right (by omega), hj2, htl, Nat.sub_self] at h2
            cases h1; cases h2
            exact ss _ _ hq1
        · rcases List.mem_append.1 hr' with h | h
          · exact ⟨(hrs r' h).1, fun z hz => by have := (hrs r' h).2 z hz; omega⟩
          · rw [List.mem_singleton.1 h]
            exact ⟨hrl, fun z hz => by have := hrz z hz; omega⟩
        · refine k rs' H' q hR' (by simp at hlen; omega) (fun r' hr' => ?_) (((k03.trans kq).trans (Same.kept ss)).trans (Same.kept s5)) (((pq.same ss).same s5).wide (by omega))
          rcases List.mem_append.1 ((hiff r').1 hr') with h | h
          · have := (hrs r' h).1; omega
          · rw [List.mem_singleton.1 h]; omega
    refine iteF' (by simpa using w1) ?_
    refine ⟨_, rfl, rfl, _, rfl, ?_⟩
    by_cases w2 : way = 2
    · refine iteT' (by simp [w2]) ?_
      refine ⟨_, rfl, _, rfl, _, rfl, ls, _, rfl, SqL.of hls, fun a1 na1 => ?_⟩
      have s1 := same_new (o := .lst (cutV (ts.map V.ref) none (some (sp : Int)))) na1
      refine ⟨_, rfl, _, rfl, ls, _, _, _, rfl, rfl, SqL.of (s1 _ _ hls), hatsp, by show 1 ≤ sizeLine; decide, fun b1 nb1 => ?_⟩
      have s1b := same_new (o := .lst [V.ref tsp]) nb1
      refine ⟨a1, b1, _, _, rfl, rfl, s1b _ _ upd_same, upd_same, by have := lcut none (some (sp : Int)); exact Nat.le_of_lt (small1000 (by show _ + 1 ≤ 1000; omega)), fun b2 nb2 => ?_⟩
      have s1c := same_new (o := .lst (cutV (ts.map V.ref) none (some (sp : Int)) ++ [V.ref tsp])) nb2
      refine ⟨_, rfl, _, rfl, _, rfl, ls, _, rfl, SqL.of (s1c _ _ (s1b _ _ (s1 _ _ hls))), fun a2 na2 => ?_⟩
      have s2 := same_new (o := .lst (cutV (ts.map V.ref) (some (sp : Int)) none)) na2
      refine ⟨b2, a2, _, _, rfl, rfl, s2 _ _ upd_same, upd_same, by have := lcut none (some (sp : Int)); have := lcut (some (sp : Int)) none; exact Nat.le_of_lt (small1000 (by rw [List.length_append]; show _ + 1 + _ ≤ 1000; omega)), fun a3 na3 => ⟨a3, _, rfl, .inl ⟨SqL.of upd_same, fun q nq => ?_⟩⟩⟩
      have s3 := same_new (o := .lst (cutV (ts.map V.ref) none (some (sp : Int)) ++ [V.ref tsp] ++ cutV (ts.map V.ref) (some (sp : Int)) none)) na3
      have ss := (((s1.trans s1b).trans s1c).trans s2).trans s3
      refine fin _ _ (hi + 2) (fun v hv => ?_) (by have := lcut none (some (sp : Int)); have := lcut (some (sp : Int)) none; rw [List.length_append, List.length_append]; show _ + 1 + _ ≤ 500; omega) (k03.trans (Same.kept ss)) (p3.same ss) (by omega) q nq
      refine (gts v ?_).same (keepT_same ss)
      rcases List.mem_append.1 hv with h | h
      · rcases List.mem_append.1 h with h | h
        · exact cutV_mem h
        · rw [List.mem_singleton.1 h]; exact List.mem_map.2 ⟨tsp, List.mem_of_getElem? hspt, rfl⟩
      · exact cutV_mem h
    refine iteF' (by simpa using w2) ?_
    refine ⟨_, rfl, rfl, _, rfl, ?_⟩
    by_cases w3 : way = 3
    · refine iteT' (by simp [w3]) ?_
      refine ⟨_, rfl, ls, _, rfl, SqL.of hls, fun a1 na1 => ⟨a1, _, rfl, .inl ⟨SqL.of upd_same, fun q nq => ?_⟩⟩⟩
      have s1 := same_new (o := .lst (ts.map V.ref).reverse) na1
      exact fin _ _ (hi + 2) (fun v hv => (gts v (List.mem_reverse.1 hv)).same (keepT_same s1)) (by rw [List.length_reverse]; omega) (k03.trans (Same.kept s1)) (p3.same s1) (by omega) q nq
    refine iteF' (by simpa using w3) ?_
    have hlp : ls ≠ p := p3.ne hls (fun a b c e => by
      obtain ⟨y, ys, e2⟩ : ∃ y ys, ts = y :: ys := by
        cases hts : ts with
        | nil => rw [hts] at tl; simp at tl; omega
        | cons y ys => exact ⟨y, ys, rfl⟩
      rw [e2] at e
      simp at e)
    refine ⟨_, rfl, _, rfl, p, hi + 2, (n : Int), rfl, p3, by omega, by omega, by omega, fun place H4 hpl0 hpl1 k4 hp4 => ?_⟩
    refine ⟨_, rfl, _, rfl, m, rfl, by show 3 ≤ sizeLine; decide, fun l1 nl1 => ?_⟩
    have s1 := same_new (o := .lst [V.int m, V.int (-m), V.int 1]) nl1
    have hl1 : (upd H4 l1 (.lst [V.int m, V.int (-m), V.int 1])) l1 = some (.lst [V.int m, V.int (-m), V.int 1]) := upd_same
    have pl1 : l1 ≠ p := fun e => by obtain ⟨_, _, _, h1, _⟩ := hp4; rw [← e, nl1] at h1; cases h1
    refine ⟨_, rfl, p, hi + 3, 3, rfl, hp4.same s1, by omega, by decide, by decide, fun d3 H5 h30 h31 k5 hp5 => ?_⟩
    have hl15 := k5 _ _ pl1 hl1
    obtain ⟨by', hby⟩ : ∃ b' : Int, atI [V.int m, V.int (-m), V.int 1] d3 = some (V.int b') := by
      have : d3 = 0 ∨ d3 = 1 ∨ d3 = 2 := by omega
      rcases this with rfl | rfl | rfl
      · exact ⟨m, rfl⟩
      · exact ⟨-m, rfl⟩
      · exact ⟨1, rfl⟩
    refine ⟨l1, _, _, _, rfl, rfl, SqL.of hl15, hby, _, _, rfl, ?_⟩
    have k35 : Kept p H3 H5 := (k4.trans (Same.kept s1)).trans k5
    have hls5 := k35 _ _ hlp hls
    have kT35 : KeepT H3 H5 := k35.keepT p3
    have htsp5 := kT35 _ _ htsp rfl
    have gts5 : ∀ v, v ∈ ts.map V.ref → GoodV H5 10 v := fun v hv => (gts v hv).same kT35
    have k05 := k03.trans k35
    obtain ⟨pl, rfl⟩ : ∃ pl : Nat, place = (pl : Int) := ⟨place.toNat, by omega⟩
    have hpl : pl < rsp.length := by rw [hrsp.1]; omega
    have hatpl : atI (rsp.map V.int) (pl : Int) = some (V.int rsp[pl]) := atI_nat (by rw [List.getElem?_map, List.getElem?_eq_getElem hpl]; rfl)
    have rl2 : (rsp.map V.int).length = n := by rw [List.length_map]; exact hrsp.1
    -- the row that is bent
    refine ⟨_, rfl, _, rfl, ls, _, _, _, rfl, rfl, SqL.of hls5, hatsp, _, rfl, _, rfl, tsp, _, rfl, SqT.of htsp5, (fun z => ?_), fun a1 na1 => ?_⟩
    · have h2 := z.2
      rw [rl2] at h2
      have : HT.sIx n n (some (pl : Int)) = pl := by rw [HT.sIx_nat]; omega
      omega
    have t1 := same_new (o := .tup (cutV (rsp.map V.int) none (some (pl : Int)))) na1
    refine ⟨_, rfl, _, rfl, ls, _, _, _, rfl, rfl, SqL.of (t1 _ _ hls5), hatsp, _, rfl, tsp, _, _, _, rfl, rfl, SqT.of (t1 _ _ htsp5), hatpl, _, rfl, _, _, rfl, rfl, by show 1 ≤ sizeLine; decide, fun a2 na2 => ?_⟩
    have t2 := same_new (o := .tup [V.int (rsp[pl] + by')]) na2
    obtain ⟨m1, em1, lm1⟩ := cut_ints rsp none (some (pl : Int))
    obtain ⟨m2, em2, lm2⟩ := cut_ints rsp (some ((pl : Int) + 1)) none
    have hrl : rsp.length = n := hrsp.1
    refine cat_tup (t2 _ _ upd_same) upd_same (by rw [em1, List.length_map]; show m1.length + 1 ≤ 1000; omega) fun H6 a3 s6 ha3 => ?_
    have s56 : Same H5 H6 := (t1.trans t2).trans s6
    refine ⟨_, rfl, _, rfl, ls, _, _, _, rfl, rfl, SqL.of (s56 _ _ hls5), hatsp, _, rfl, _, _, rfl, rfl, _, rfl, tsp, _, rfl, SqT.of (s56 _ _ htsp5), (fun z => ?_), fun a4 na4 => ?_⟩
    · have h2 := z.1
      rw [rl2] at h2
      have : HT.sIx n 0 (some ((pl : Int) + 1)) = pl + 1 := by rw [show (pl : Int) + 1 = ((pl + 1 : Nat) : Int) by omega, HT.sIx_nat]; omega
      omega
    have t4 := same_new (o := .tup (cutV (rsp.map V.int) (some ((pl : Int) + 1)) none)) na4
    refine cat_tup (t4 _ _ ha3) upd_same (by rw [em1, em2, List.length_append, List.length_map, List.length_map]; show m1.length + 1 + m2.length ≤ 1000; omega) fun H7 a5 s7 ha5 => ?_
    have s57 : Same H5 H7 := (s56.trans t4).trans s7
    have g5 : GoodV H7 10 (.ref a5) := ⟨a5, m1 ++ [rsp[pl] + by'] ++ m2, rfl, by rw [ha5, em1, em2]; simp, by simp; omega⟩
    -- the end, with whichever row
    have last : ∀ (H8 : Hp) (a : Addr), Same H5 H8 → GoodV H8 10 (.ref a) → (tRet (tCB (fun xs H Q => ∃ p ys, xs = [V.ref p] ∧ ((SqL K H p ys ∧ ∀ l, H l = none → Q (.ref l) (upd H l (.tup ys))) ∨ (SqT K H p ys ∧ Q (.ref p) H))) (tCons (tOp rCat (tOp rCat (tSl (rSlL K) (tVar 5) tNoPart (tPart (tVar 3))) (tLst (tCons (tVar 11) tNil))) (tSl (rSlL K) (tVar 5) (tPart (tOp (rI0 fun i j => V.int (i + j)) (tVar 3) (tC (V.int 1)))) tNoPart)) tNil))) { nx := fun _ H' => Q .non H', rt := Q } [some (.ref p), some (.ref c), some (.int m), some (.int (sp : Int)), some (.int way), some (.ref ls), some (.int (n : Int)), none, none, some (.int (pl : Int)), some (.int by'), some (.ref a)] H8 := fun H8 a s8 ga => by
      have hls8 := s8 _ _ hls5
      refine ⟨_, rfl, _, rfl, _, rfl, ls, _, rfl, SqL.of hls8, fun a1 na1 => ?_⟩
      have s1 := same_new (o := .lst (cutV (ts.map V.ref) none (some (sp : Int)))) na1
      refine ⟨_, rfl, by show 1 ≤ sizeLine; decide, fun b1 nb1 => ?_⟩
      have s1b := same_new (o := .lst [V.ref a]) nb1
      refine ⟨a1, b1, _, _, rfl, rfl, s1b _ _ upd_same, upd_same, by have := lcut none (some (sp : Int)); exact Nat.le_of_lt (small1000 (by show _ + 1 ≤ 1000; omega)), fun b2 nb2 => ?_⟩
      have s1c := same_new (o := .lst (cutV (ts.map V.ref) none (some (sp : Int)) ++ [V.ref a])) nb2
      refine ⟨_, rfl, _, rfl, _, _, rfl, rfl, _, rfl, ls, _, rfl, SqL.of (s1c _ _ (s1b _ _ (s1 _ _ hls8))), fun a2 na2 => ?_⟩
      have s2 := same_new (o := .lst (cutV (ts.map V.ref) (some ((sp : Int) + 1)) none)) na2
      refine ⟨b2, a2, _, _, rfl, rfl, s2 _ _ upd_same, upd_same, by have := lcut none (some (sp : Int)); have := lcut (some ((sp : Int) + 1)) none; exact Nat.le_of_lt (small1000 (by rw [List.length_append]; show _ + 1 + _ ≤ 1000; omega)), fun a3 na3 => ⟨a3, _, rfl, .inl ⟨SqL.of upd_same, fun q nq => ?_⟩⟩⟩
      have s3 := same_new (o := .lst (cutV (ts.map V.ref) none (some (sp : Int)) ++ [V.ref a] ++ cutV (ts.map V.ref) (some ((sp : Int) + 1)) none)) na3
      have ss := (((s1.trans s1b).trans s1c).trans s2).trans s3
      refine fin _ _ (hi + 5) (fun v hv => ?_) (by have := lcut none (some (sp : Int)); have := lcut (some ((sp : Int) + 1)) none; rw [List.length_append, List.length_append]; show _ + 1 + _ ≤ 500; omega) ((k05.trans (Same.kept s8)).trans (Same.kept ss)) (((hp5.same s8).same ss).wide (by omega)) (by omega) q nq
      rcases List.mem_append.1 hv with h | h
      · rcases List.mem_append.1 h with h | h
        · exact (gts5 v (cutV_mem h)).same (keepT_same (s8.trans ss))
        · rw [List.mem_singleton.1 h]; exact ga.same (keepT_same ss)
      · exact (gts5 v (cutV_mem h)).same (keepT_same (s8.trans ss))
    refine ⟨_, rfl, rfl, _, rfl, ?_⟩
    by_cases w4 : way = 4
    · refine iteT' (by simp [w4]) ?_
      refine ⟨_, rfl, _, rfl, ls, _, _, _, rfl, rfl, SqL.of (s57 _ _ hls5), hatsp, by show 1 ≤ sizeLine; decide, fun b1 nb1 => ?_⟩
      have tb := same_new (o := .tup [V.int 0]) nb1
      refine cat_tup (tb _ _ (s57 _ _ htsp5)) upd_same (by rw [rl2]; show n + 1 ≤ 1000; omega) fun H8 a6 s8 ha6 => ?_
      exact last H8 a6 ((s57.trans tb).trans s8) ⟨a6, rsp ++ [0], rfl, by rw [ha6]; simp, by simp; omega⟩
    · refine iteF' (by simpa using w4) ?_
      exact last H7 a5 s57 g5
end
end L2.EH
end S_Q24
section S_Q25
set_option exponentiation.threshold 2000
set_option maxRecDepth 100000
set_option maxHeartbeats 4000000
namespace L2.EH
open PySem PySem.Spec PyProof.Rows StX
open L2.Halves (has keys)
/-! ### why the law holds: rests by rows and by columns -/
theorem shr_ones_from : ∀ (r : List Int), (ones r).foldl (fun n p => Nat.lcm n p.2.natAbs) 1 = 1
  | [] => rfl
  | z :: r => by
    show (ones r).foldl (fun n p => Nat.lcm n p.2.natAbs) (Nat.lcm 1 1) = 1
    exact shr_ones_from r
theorem shr_ones (r : List Int) : shr (ones r) = 1 := shr_ones_from r
theorem ones_take (r : List Int) (i : Nat) : (ones r).take i = ones (r.take i) := by unfold ones; rw [List.map_take]
theorem shRow_one (i : Nat) (z : Int) (r : List Int) : shRow 1 i (ones (z :: r)) = if z ≠ 0 then (i, z) :: shRow 1 (i + 1) (ones r) else shRow 1 (i + 1) (ones r) := by
  show shRow 1 i ((z, 1) :: ones r) = _
  simp only [shRow]
  have : (1 : Int) / 1 = 1 := by decide
  rw [this, Int.mul_one]
theorem get_ones : ∀ (r : List Int) (i k : Nat), Halves.get (shRow 1 i (ones r)) k = if k < i then 0 else r.getD (k - i) 0
  | [], i, k => by simp [ones, shRow, Halves.get]
  | z :: r, i, k => by
    have ih := get_ones r (i + 1) k
    rw [shRow_one]
    by_cases hz : z ≠ 0
    · rw [if_pos hz, get_cons]
      by_cases e : i = k
      · subst e; simp
      · rw [if_neg e, ih]
        by_cases h : k < i
        · rw [if_pos (by omega), if_pos h]
        · rw [if_neg (by omega), if_neg h, show k - i = (k - (i + 1)) + 1 by omega, List.getD_cons_succ]
    · rw [if_neg hz, ih]
      have hz0 : z = 0 := by omega
      by_cases h : k < i
      · rw [if_pos (by omega), if_pos h]
      · rw [if_neg h]
        by_cases e : k = i
        · subst e; rw [if_pos (by omega), Nat.sub_self, List.getD_cons_zero, hz0]
        · rw [if_neg (by omega), show k - i = (k - (i + 1)) + 1 by omega, List.getD_cons_succ]
theorem dotp_nil (r : List Int) : dotp r [] = 0 := by cases r <;> simp [dotp]
theorem rowTimes_ones : ∀ (r ws : List Int) (i : Nat), rowTimes (shRow 1 i (ones r)) ws = dotp r (ws.drop i)
  | [], ws, i => by simp [ones, shRow, rowTimes, prods, dotp]
  | z :: r, ws, i => by
    have ih := rowTimes_ones r ws (i + 1)
    rw [shRow_one]
    have hd : dotp (z :: r) (ws.drop i) = z * ws.getD i 0 + dotp r (ws.drop (i + 1)) := by
      by_cases h : i < ws.length
      · rw [List.drop_eq_getElem_cons h, dotp_cons, List.getD_eq_getElem?_getD, List.getElem?_eq_getElem h]; rfl
      · rw [List.drop_eq_nil_of_le (by omega), List.drop_eq_nil_of_le (by omega), dotp_nil, dotp_nil, List.getD_eq_getElem?_getD, List.getElem?_eq_none (by omega)]
        simp
    rw [hd]
    by_cases hz : z ≠ 0
    · rw [if_pos hz]
      show z * ws.getD i 0 + rowTimes (shRow 1 (i + 1) (ones r)) ws = _
      rw [ih]
    · have hz0 : z = 0 := by omega
      rw [if_neg hz, ih, hz0, Int.zero_mul, Int.zero_add]
theorem rowTimes_append (a b : Halves.Row) (ws : List Int) : rowTimes (a ++ b) ws = rowTimes a ws + rowTimes b ws := by
  unfold rowTimes prods
  rw [List.map_append, List.sum_append]
def sumTo (n : Nat) (f : Nat → Int) : Int := ((List.range n).map f).sum
theorem sumTo_succ (n : Nat) (f : Nat → Int) : sumTo (n + 1) f = sumTo n f + f n := by
  unfold sumTo
  rw [List.range_succ, List.map_append, List.sum_append]
  simp
theorem col_sum (S : List Halves.Row) (j : Nat) (r : List Int) : ∀ i : Nat, rowTimes (colUp S i j) r = sumTo i fun a => Halves.get (S.getD a []) j * r.getD a 0
  | 0 => by simp [colUp, rowTimes, prods, sumTo]
  | i + 1 => by
    rw [colUp_succ, rowTimes_append, col_sum S j r i, sumTo_succ]
    congr 1
    by_cases h : has (S.getD i []) j = true
    · rw [if_pos h]
      simp [rowTimes, prods]
    · rw [if_neg h, Halves.get_of_not_mem _ _ (fun hm => h ((Halves.has_iff _ _).2 hm))]
      simp [rowTimes, prods]
theorem dotp_snoc {a b : List Int} (h : a.length = b.length) (x y : Int) : dotp (a ++ [x]) (b ++ [y]) = dotp a b + x * y := by
  unfold dotp
  rw [List.zipWith_append h, List.sum_append]
  simp
theorem dotp_sum (r c : List Int) (h : r.length = c.length) : ∀ i : Nat, i ≤ r.length → dotp (r.take i) (c.take i) = sumTo i fun a => c.getD a 0 * r.getD a 0
  | 0, _ => by simp [dotp, sumTo]
  | i + 1, hi => by
    have hr : i < r.length := by omega
    have hc : i < c.length := by omega
    rw [take_snoc' r i r[i] (List.getElem?_eq_getElem hr), take_snoc' c i c[i] (List.getElem?_eq_getElem hc), dotp_snoc (by simp; omega), dotp_sum r c h i (by omega), sumTo_succ]
    congr 1
    rw [List.getD_eq_getElem?_getD, List.getD_eq_getElem?_getD, List.getElem?_eq_getElem hr, List.getElem?_eq_getElem hc, Int.mul_comm]
    rfl
theorem sumTo_congr {n : Nat} {f g : Nat → Int} (h : ∀ i, i < n → f i = g i) : sumTo n f = sumTo n g := by
  unfold sumTo
  rw [List.map_congr_left fun i hi => h i (List.mem_range.1 hi)]
theorem col_times {M : List (List Int)} {r : List Int} (h : r.length = M.length) (j : Nat) : rowTimes (colUp (spars (M.map ones)) (M.map ones).length j) r = dotp r (colOf M j) := by
  have hc : r.length = (colOf M j).length := by simp [colOf, h]
  have e := dotp_sum r (colOf M j) hc r.length (Nat.le_refl _)
  rw [List.take_length, hc, List.take_length] at e
  rw [e, col_sum, List.length_map, show (colOf M j).length = M.length by simp [colOf]]
  refine sumTo_congr fun a ha => ?_
  congr 1
  have es : (spars (M.map ones)).getD a [] = shRow 1 0 (ones M[a]) := by
    unfold spars
    rw [List.getD_eq_getElem?_getD, List.getElem?_map, List.getElem?_map, List.getElem?_eq_getElem ha]
    show shRow ((shr (ones M[a]) : Nat) : Int) 0 (ones M[a]) = _
    rw [shr_ones]; rfl
  rw [es, get_ones, if_neg (by omega), Nat.sub_zero]
  unfold colOf
  rw [List.getD_eq_getElem?_getD (l := M.map _), List.getElem?_map, List.getElem?_eq_getElem ha]
  rfl
theorem made_back {M : List (List Int)} {r : List Int} (h : r.length = M.length) (m : Int) : madeRow (colsOf (M.map ones)) r m = modRow (backOf M r) m := by
  unfold madeRow colsOf modRow backOf
  rw [List.map_map, List.map_map, List.length_map, h]
  refine List.map_congr_left fun j hj => ?_
  show rowTimes (colUp (spars (M.map ones)) M.length j) r % m = dotp r (colOf M j) % m
  have := col_times h j
  rw [List.length_map] at this
  rw [this]
theorem told_mod (L : LR) (h : L.told.length = L.even.length) (m : Int) : toldRow (plainOf L) m = modRow L.told m := by
  unfold toldRow modRow
  show ((List.range (L.even.map ones).length).map fun i => Halves.get (shRow (shr (ones L.told) : Int) 0 (ones L.told)) i % m) = _
  rw [shr_ones, List.length_map, ← h]
  apply List.ext_getElem
  · simp
  · intro i h1 h2
    have hi : i < L.told.length := by simpa using h2
    simp only [List.getElem_map, List.getElem_range]
    have := get_ones L.told 0 i
    rw [if_neg (by omega), Nat.sub_zero, List.getD_eq_getElem?_getD, List.getElem?_eq_getElem hi] at this
    show Halves.get (shRow 1 0 (ones L.told)) i % m = _
    rw [this]; rfl
theorem frowOk_ones (r : List Int) (n : Nat) (h : r.length = n) : frowOk (n : Int) (ones r) = true := by
  unfold frowOk
  rw [Bool.and_eq_true]
  refine ⟨decide_eq_true (by simp [ones, h]), List.all_eq_true.mpr fun p hp => ?_⟩
  obtain ⟨z, _, rfl⟩ := List.mem_map.1 hp
  unfold fracOk
  rw [Bool.and_eq_true]
  refine ⟨decide_eq_true (by show (1 : Int) ≤ 1; decide), decide_eq_true ?_⟩
  show Int.gcd z 1 = 1
  simp
theorem squareOk_ones {M : List (List Int)} {n : Nat} (h : M.length = n) (hr : ∀ r, r ∈ M → r.length = n) : squareOk (n : Int) (M.map ones) = true := by
  unfold squareOk
  rw [Bool.and_eq_true]
  refine ⟨decide_eq_true (by simp [h]), List.all_eq_true.mpr fun p hp => ?_⟩
  obtain ⟨r, hr', rfl⟩ := List.mem_map.1 hp
  exact frowOk_ones r n (hr r hr')
theorem rowB_ones {r : List Int} {n b : Nat} (hn : n ≤ 900) (hb : b ≤ 1000) (h : r.length = n ∧ ∀ z, z ∈ r → z.natAbs < 2 ^ b) : RowB (ones r) := by
  refine ⟨by simp [ones, h.1, hn], fun i => by rw [ones_take, shr_ones]; decide, fun p hp => ?_⟩
  obtain ⟨z, hz, rfl⟩ := List.mem_map.1 hp
  exact ⟨by show (1 : Int).natAbs < 2 ^ 60; decide, Nat.lt_of_lt_of_le (h.2 z hz) (Nat.pow_le_pow_right (by decide) hb)⟩
theorem plain_flat {L : LR} {n b : Nat} (h : LRB L n b) (hn : n ≤ 100) (hf : FitsL L.even L.heads) : Flat (plainOf L) := by
  have he : (plainOf L).even.length = n := by simp [plainOf, h.e]
  refine ⟨?_, ?_, fun r hr => ?_, fun r hr => ?_⟩
  · unfold Plain.ok
    rw [he]
    simp only [Bool.and_eq_true]
    refine ⟨decide_eq_true hn, squareOk_ones h.e fun r hr => (h.er r hr).1, squareOk_ones h.o fun r hr => (h.or r hr).1, decide_eq_true h.h.1, frowOk_ones _ _ h.t.1, ?_⟩
    unfold fitsB
    refine List.all_eq_true.mpr fun p hp => decide_eq_true ?_
    have hp2 : p ∈ List.zip (L.even.map ones) L.heads := hp
    obtain ⟨i, hi, e⟩ := List.getElem_of_mem hp2
    have hl := List.length_zip (l₁ := L.even.map ones) (l₂ := L.heads)
    have hi2 : i < L.heads.length := by omega
    have hi3 : i < L.even.length := by rw [List.length_map] at hl; omega
    have e2 : p = (ones L.even[i], L.heads[i]) := by
      rw [← e]
      simp
    rw [e2]
    show rowTimes (shRow (shr (ones L.even[i]) : Int) 0 (ones L.even[i])) L.heads = L.heads[i] * (shr (ones L.even[i]) : Int)
    rw [shr_ones]
    show rowTimes (shRow 1 0 (ones L.even[i])) L.heads = L.heads[i] * 1
    rw [rowTimes_ones, List.drop_zero, Int.mul_one]
    exact hf i _ _ (List.getElem?_eq_getElem hi3) (List.getElem?_eq_getElem hi2)
  · refine ⟨by rw [he]; exact h.few, by simp [plainOf, h.o, h.few], by show L.heads.length ≤ 900; rw [h.h.1]; exact h.few, fun r hr => ?_, fun r hr => ?_, rowB_ones h.few h.bits.2 h.t, fun z hz => Nat.lt_of_lt_of_le (h.h.2 z hz) (Nat.pow_le_pow_right (by decide) h.bits.2)⟩
    · obtain ⟨r', hr', rfl⟩ := List.mem_map.1 hr
      exact rowB_ones h.few h.bits.2 (h.er r' hr')
    · obtain ⟨r', hr', rfl⟩ := List.mem_map.1 hr
      exact rowB_ones h.few h.bits.2 (h.or r' hr')
  · obtain ⟨r', _, rfl⟩ := List.mem_map.1 hr
    exact shr_ones r'
  · obtain ⟨r', _, rfl⟩ := List.mem_map.1 hr
    exact shr_ones r'
end L2.EH
end S_Q25
section S_Q26
set_option exponentiation.threshold 2000
set_option maxRecDepth 100000
set_option maxHeartbeats 4000000
namespace L2.EH
open PySem PySem.Spec PyProof.Rows StX
open L2.Halves (has keys)
/-! ### accepted = due -/
theorem ascR_iff : ∀ (rs : List (List Int)) (o : Option (List Int)), AscR o rs ↔ (∀ b r, o = some b → rs[0]? = some r → b < r) ∧ ∀ (j : Nat) x y, rs[j]? = some x → rs[j + 1]? = some y → x < y
  | [], o => by
    constructor
    · intro _; exact ⟨fun b r _ h => by simp at h, fun j x y h => by simp at h⟩
    · intro _; cases o <;> trivial
  | r :: rs, o => by
    have ih := ascR_iff rs (some r)
    have e : (∀ (j : Nat) x y, (r :: rs)[j]? = some x → (r :: rs)[j + 1]? = some y → x < y) ↔ ((∀ b r', some r = some b → rs[0]? = some r' → b < r') ∧ ∀ (j : Nat) x y, rs[j]? = some x → rs[j + 1]? = some y → x < y) := by
      constructor
      · intro h
        refine ⟨fun b r' hb hr => ?_, fun j x y h1 h2 => h (j + 1) x y (by simpa using h1) (by simpa using h2)⟩
        cases hb
        exact h 0 r r' rfl (by simpa using hr)
      · rintro ⟨h1, h2⟩ j x y e1 e2
        match j with
        | 0 => cases e1; exact h1 r y rfl (by simpa using e2)
        | j + 1 => exact h2 j x y (by simpa using e1) (by simpa using e2)
    rw [e, ← ih]
    cases o with
    | none => simp [AscR]
    | some b => simp [AscR]
theorem ascInts_iff : ∀ (a : List Int) (lo : Int), AscInts lo a ↔ (∀ r, a[0]? = some r → lo < r) ∧ ∀ (j : Nat) x y, a[j]? = some x → a[j + 1]? = some y → x < y
  | [], lo => by simp [AscInts]
  | r :: rs, lo => by
    have ih := ascInts_iff rs r
    have e : (∀ (j : Nat) x y, (r :: rs)[j]? = some x → (r :: rs)[j + 1]? = some y → x < y) ↔ ((∀ r', rs[0]? = some r' → r < r') ∧ ∀ (j : Nat) x y, rs[j]? = some x → rs[j + 1]? = some y → x < y) := by
      constructor
      · intro h
        refine ⟨fun r' hr => h 0 r r' rfl (by simpa using hr), fun j x y h1 h2 => h (j + 1) x y (by simpa using h1) (by simpa using h2)⟩
      · rintro ⟨h1, h2⟩ j x y e1 e2
        match j with
        | 0 => cases e1; exact h1 y (by simpa using e2)
        | j + 1 => exact h2 j x y (by simpa using e1) (by simpa using e2)
    rw [e, ← ih]
    simp [AscInts]
theorem ascInts_all : ∀ (a : List Int) (lo : Int), AscInts lo a → ∀ z, z ∈ a → lo < z
  | [], _, _, z, h => by cases h
  | x :: a, lo, h, z, hz => by
    rcases List.mem_cons.1 hz with rfl | hz
    · exact h.1
    · have := ascInts_all a x h.2 z hz
      have := h.1
      omega
theorem rests_due {L : LR} {n b : Nat} (h : LRB L n b) {m : Int} (h2 : 2 ≤ m) (h12 : m ≤ 12) {E : List Int} {rs : List (List Int)} (hl : rs.length ≤ 1024) : RestsOk (plainOf L) m E rs ↔ DueOk L m E rs := by
  have en : (plainOf L).even.length = n := by simp [plainOf, h.e]
  have eh : L.heads.length = n := h.h.1
  have etl : L.told.length = L.even.length := by rw [h.t.1, h.e]
  have back : ∀ r : List Int, r.length = n → madeRow (colsOf (plainOf L).even) r m = modRow (backOf L.even r) m ∧ madeRow (colsOf (plainOf L).odd) r m = modRow (backOf L.odd r) m := fun r hr => ⟨made_back (by rw [hr, h.e]) m, made_back (by rw [hr, h.o]) m⟩
  constructor
  · rintro ⟨_, _, a1, a2, c1, c2, c3, c4, c5, c6⟩
    have rl : ∀ r, r ∈ rs → r.length = n := fun r hr => by have := (c2.each r hr).1; rw [en] at this; omega
    refine ⟨((ascInts_iff E (-1)).1 a1).2, fun z hz => ⟨by have := ascInts_all E (-1) a1 z hz; omega, a2 z hz⟩, ((ascR_iff rs none).1 c2.asc).2, fun r hr => by rw [rl r hr, eh], fun r hr z hz => by have := (c2.each r hr).2 z hz; omega, fun r hr => c6 r hr, fun r hr => ?_, fun r hr => ?_, ?_⟩
    · rw [← (back r (rl r hr)).1]; exact c4 r hr
    · rw [← (back r (rl r hr)).2]; exact c5 r hr
    · rw [← told_mod L etl]; exact c3
  · rintro ⟨d1, d2, d3, d4, d5, d6, d7, d8, d9⟩
    have rl : ∀ r, r ∈ rs → r.length = n := fun r hr => by rw [d4 r hr, eh]
    refine ⟨h2, h12, (ascInts_iff E (-1)).2 ⟨fun r hr => by have := (d2 r (List.mem_of_getElem? hr)).1; omega, d1⟩, fun z hz => (d2 z hz).2, ⟨shr_ones L.told, ⟨hl, fun r hr => ⟨by rw [en, rl r hr], fun z hz => by have := d5 r hr z hz; omega⟩, (ascR_iff rs none).2 ⟨fun b r hb => (by cases hb), d3⟩⟩, ?_, fun r hr => ?_, fun r hr => ?_, fun r hr => d6 r hr⟩⟩
    · rw [told_mod L etl]; exact d9
    · rw [(back r (rl r hr)).1]; exact d7 r hr
    · rw [(back r (rl r hr)).2]; exact d8 r hr
theorem papers_due {L : LR} {m : Int} {E : List Int} {rs : List (List Int)} (h : Papers L m rs E) : DueOk L m E rs :=
  ⟨((ascInts_iff E (-1)).1 h.easc).2, fun z hz => ⟨by have := ascInts_all E (-1) h.easc z hz; omega, h.elt z hz⟩, ((ascR_iff rs none).1 h.asc).2, fun r hr => (h.each r hr).1, fun r hr => (h.each r hr).2, h.ends, h.e, h.o, h.told⟩
/-! ### the values by lines lie in the ends -/
theorem dotp_add (f g : Nat → Int) : ∀ (l : List Nat) (ws : List Int), dotp (l.map fun j => f j + g j) ws = dotp (l.map f) ws + dotp (l.map g) ws
  | [], ws => by simp [dotp]
  | j :: l, [] => by simp [dotp]
  | j :: l, w :: ws => by
    have ih := dotp_add f g l ws
    simp only [List.map_cons, dotp_cons, ih, Int.add_mul]
    omega
theorem dotp_scale (y : Int) (f : Nat → Int) : ∀ (l : List Nat) (ws : List Int), dotp (l.map fun j => y * f j) ws = y * dotp (l.map f) ws
  | [], ws => by simp [dotp]
  | j :: l, [] => by simp [dotp]
  | j :: l, w :: ws => by
    have ih := dotp_scale y f l ws
    simp only [List.map_cons, dotp_cons, ih, Int.mul_add, Int.mul_assoc]
theorem dotp_zeros : ∀ (l : List Nat) (ws : List Int), dotp (l.map fun _ => (0 : Int)) ws = 0
  | [], ws => by simp [dotp]
  | j :: l, [] => by simp [dotp]
  | j :: l, w :: ws => by simp only [List.map_cons, dotp_cons, dotp_zeros l ws, Int.zero_mul, Int.add_zero]
theorem range_getD (x : List Int) : (List.range x.length).map (fun j => x.getD j 0) = x := by
  apply List.ext_getElem
  · simp
  · intro i h1 h2
    simp [List.getD_eq_getElem?_getD, List.getElem?_eq_getElem h2]
theorem dotp_image (n : Nat) (ws : List Int) : ∀ (M : List (List Int)) (r : List Int), r.length = M.length → (∀ x, x ∈ M → x.length = n) → dotp r (imageOf M ws) = dotp ((List.range n).map fun j => dotp r (colOf M j)) ws
  | [], [], _, _ => by
    have : (fun j => dotp [] (colOf [] j)) = fun _ : Nat => (0 : Int) := by funext j; simp [dotp]
    rw [this, dotp_zeros]
    simp [imageOf, dotp]
  | [], y :: r, h, _ => by simp at h
  | x :: M, [], h, _ => by simp at h
  | x :: M, y :: r, h, hM => by
    have ih := dotp_image n ws M r (by simpa using h) fun z hz => hM z (List.mem_cons_of_mem _ hz)
    have hx := hM x (List.mem_cons_self ..)
    have e : (fun j => dotp (y :: r) (colOf (x :: M) j)) = fun j => y * x.getD j 0 + dotp r (colOf M j) := by
      funext j
      show dotp (y :: r) (x.getD j 0 :: colOf M j) = _
      rw [dotp_cons]
    rw [e, dotp_add, dotp_scale, ← hx, range_getD, hx, ← ih]
    show dotp (y :: r) (dotp x ws :: imageOf M ws) = _
    rw [dotp_cons]
theorem dotp_mod (m : Int) : ∀ (u ws : List Int), ∃ k, dotp u ws = dotp (modRow u m) ws + m * k
  | [], ws => ⟨0, by simp [dotp, modRow]⟩
  | z :: u, [] => ⟨0, by simp [dotp]⟩
  | z :: u, w :: ws => by
    obtain ⟨k, hk⟩ := dotp_mod m u ws
    refine ⟨k + (z / m) * w, ?_⟩
    show dotp (z :: u) (w :: ws) = dotp (z % m :: modRow u m) (w :: ws) + _
    rw [dotp_cons, dotp_cons, hk]
    have h1 : z * w = z % m * w + m * (z / m * w) := by
      rw [← Int.mul_assoc, ← Int.add_mul]
      congr 1
      have := Int.emod_add_mul_ediv z m
      omega
    rw [h1, Int.mul_add]
    omega
theorem dotp_modR (m : Int) (u ws : List Int) : dotp (modRow u m) ws % m = dotp u ws % m := by
  obtain ⟨k, hk⟩ := dotp_mod m u ws
  rw [hk, Int.add_mul_emod_self_left]
theorem lines_in {L : LR} {n b : Nat} (h : LRB L n b) {m : Int} {E : List Int} {rs : List (List Int)} (hp : Papers L m rs E) : ∀ (k : Nat) (ds : List Int), ds.length = k → ∀ r, r ∈ rs → dotp r (linesOf L ds) % m ∈ E
  | 0, ds, e, r, hr => by
    have : ds = [] := by simpa using e
    subst this
    exact hp.ends r hr
  | k + 1, ds, e, r, hr => by
    have hne : ds ≠ [] := by intro z; rw [z] at e; simp at e
    have e2 := (List.dropLast_concat_getLast hne).symm
    rw [e2, linesOf_snoc]
    have hH := h.half (ds.getLast hne)
    have hrl : r.length = n := by rw [(hp.each r hr).1, h.h.1]
    rw [dotp_image n _ _ r (by rw [hrl, hH.1]) fun x hx => (hH.2 x hx).1]
    have eb : ((List.range n).map fun j => dotp r (colOf (halfOf L (ds.getLast hne)) j)) = backOf (halfOf L (ds.getLast hne)) r := by unfold backOf; rw [hrl]
    rw [eb, ← dotp_modR]
    refine lines_in h hp k ds.dropLast (by simp [e]) _ ?_
    unfold halfOf
    split
    · exact hp.e r hr
    · exact hp.o r hr
theorem at_in {L : LR} {n b : Nat} (h : LRB L n b) {m : Int} {E : List Int} {rs : List (List Int)} (hp : Papers L m rs E) (ds : List Int) : dotp L.told (linesOf L ds) % m ∈ E := by
  rw [← dotp_modR]
  exact lines_in h hp ds.length ds rfl _ hp.told
end L2.EH
end S_Q26
section S_Q27
set_option exponentiation.threshold 2000
set_option maxRecDepth 100000
set_option maxHeartbeats 4000000
namespace L2.EH
open PySem PySem.Spec PyProof.Rows StX
/-! ### 1024 rows, and one more -/
def idM : List (List Int) := (List.range 6).map fun s => (List.range 6).map fun j => if j = s then (1 : Int) else 0
def stepsN : List Int := [1024, 256, 64, 16, 4, 1]
def rowN (k : Nat) : List Int := stepsN.map fun st => (k : Int) / st % 4
def rowsN (n : Nat) : List (List Int) := (List.range n).map rowN
theorem rowsN_succ (n : Nat) : rowsN (n + 1) = rowsN n ++ [rowN n] := by unfold rowsN; rw [List.range_succ, List.map_append]; rfl
theorem rowsN_get {n j : Nat} (h : j < n) : (rowsN n)[j]? = some (rowN j) := by unfold rowsN; rw [List.getElem?_map, List.getElem?_range h]; rfl
theorem rowsN_len (n : Nat) : (rowsN n).length = n := by simp [rowsN]
theorem rowN_in (k : Nat) : InB 4 (rowN k) := fun z hz => by
  obtain ⟨st, _, rfl⟩ := List.mem_map.1 hz
  omega
theorem rowN_code (k : Nat) (h : k < 4096) : codeB 4 0 (rowN k) = (k : Int) := by
  simp only [rowN, stepsN, List.map_cons, List.map_nil, codeB, List.foldl_cons, List.foldl_nil]
  omega
theorem rowN_lt {j k : Nat} (h : j < k) (hk : k < 4096) : rowN j < rowN k :=
  codeB_order (by decide) _ _ 0 (by simp [rowN]) (rowN_in j) (rowN_in k) (by rw [rowN_code j (by omega), rowN_code k hk]; omega)
theorem rowN_mod (k : Nat) : modRow (rowN k) 4 = rowN k := by
  unfold modRow rowN
  rw [List.map_map]
  refine List.map_congr_left fun st _ => ?_
  show (k : Int) / st % 4 % 4 = (k : Int) / st % 4
  omega
theorem back_id (k : Nat) : backOf idM (rowN k) = rowN k := by
  have e : rowN k = [(k : Int) / 1024 % 4, (k : Int) / 256 % 4, (k : Int) / 64 % 4, (k : Int) / 16 % 4, (k : Int) / 4 % 4, (k : Int) / 1 % 4] := rfl
  rw [e]
  generalize (k : Int) / 1024 % 4 = a
  generalize (k : Int) / 256 % 4 = b
  generalize (k : Int) / 64 % 4 = c
  generalize (k : Int) / 16 % 4 = d
  generalize (k : Int) / 4 % 4 = e
  generalize (k : Int) / 1 % 4 = f
  simp [backOf, idM, colOf, dotp, List.range, List.range.loop]
def manyL (hs : List Int) (k : Nat) : LR := ⟨idM, idM, hs, rowN k⟩
theorem idM_rows : idM.length = 6 ∧ ∀ r, r ∈ idM → r.length = 6 ∧ ∀ z, z ∈ r → z.natAbs < 2 ^ 10 := by
  have h : (idM.length == 6 && idM.all fun r => r.length == 6 && r.all fun z => decide (z.natAbs < 2 ^ 10)) = true := by decide +kernel
  simp only [Bool.and_eq_true, List.all_eq_true, beq_iff_eq, decide_eq_true_eq] at h
  exact h
theorem many_ok {hs : List Int} {k : Nat} (hl : hs.length = 6) (hz : ∀ z, z ∈ hs → z.natAbs < 2 ^ 10) : LRB (manyL hs k) 6 10 :=
  ⟨by decide, ⟨by decide, by decide⟩, idM_rows.1, idM_rows.1, idM_rows.2, idM_rows.2, ⟨hl, hz⟩, ⟨by simp [manyL, rowN, stepsN], fun z hz => by
    have := rowN_in k z hz
    have e : (2 : Nat) ^ 10 = 1024 := by decide
    omega⟩⟩
theorem many_fits {hs : List Int} (hl : hs.length = 6) : FitsL idM hs := fun i r z e1 e2 => by
  match hs, hl with
  | [a, b, c, d, e, f], _ =>
    match i with
    | 0 => cases e1; cases e2; simp [dotp, List.range, List.range.loop]
    | 1 => cases e1; cases e2; simp [dotp, List.range, List.range.loop]
    | 2 => cases e1; cases e2; simp [dotp, List.range, List.range.loop]
    | 3 => cases e1; cases e2; simp [dotp, List.range, List.range.loop]
    | 4 => cases e1; cases e2; simp [dotp, List.range, List.range.loop]
    | 5 => cases e1; cases e2; simp [dotp, List.range, List.range.loop]
    | i + 6 => simp at e2
theorem many_due {hs : List Int} {k : Nat} (hk : k < 1024) (hl : hs.length = 6) : DueOk (manyL hs k) 4 [0, 1, 2, 3] (rowsN 1024) := by
  have mem : ∀ r, r ∈ rowsN 1024 → ∃ j, j < 1024 ∧ r = rowN j := fun r hr => by
    obtain ⟨j, hj, rfl⟩ := List.mem_map.1 hr
    exact ⟨j, List.mem_range.1 hj, rfl⟩
  have inn : ∀ j, j < 1024 → rowN j ∈ rowsN 1024 := fun j hj => List.mem_map.2 ⟨j, List.mem_range.2 hj, rfl⟩
  refine ⟨fun j x y e1 e2 => ?_, fun z hz => ?_, fun j x y e1 e2 => ?_, fun r hr => ?_, fun r hr => ?_, fun r hr => ?_, fun r hr => ?_, fun r hr => ?_, ?_⟩
  · match j with
    | 0 => cases e1; cases e2; decide
    | 1 => cases e1; cases e2; decide
    | 2 => cases e1; cases e2; decide
    | j + 3 => simp at e2
  · simp at hz; omega
  · have h2 : j + 1 < 1024 := by have := (List.getElem?_eq_some_iff.1 e2).1; rw [rowsN_len] at this; exact this
    rw [rowsN_get (by omega)] at e1
    rw [rowsN_get h2] at e2
    cases e1; cases e2
    exact rowN_lt (by omega) (by omega)
  · obtain ⟨j, hj, rfl⟩ := mem r hr
    show (rowN j).length = hs.length
    rw [hl]; simp [rowN, stepsN]
  · obtain ⟨j, hj, rfl⟩ := mem r hr
    exact rowN_in j
  · have h1 : 0 ≤ dotp r hs % 4 := Int.emod_nonneg _ (by decide)
    have h2 : dotp r hs % 4 < 4 := Int.emod_lt_of_pos _ (by decide)
    show dotp r hs % 4 ∈ [0, 1, 2, 3]
    generalize dotp r hs % 4 = q at *
    simp; omega
  · obtain ⟨j, hj, rfl⟩ := mem r hr
    show modRow (backOf idM (rowN j)) 4 ∈ _
    rw [back_id, rowN_mod]; exact inn j hj
  · obtain ⟨j, hj, rfl⟩ := mem r hr
    show modRow (backOf idM (rowN j)) 4 ∈ _
    rw [back_id, rowN_mod]; exact inn j hj
  · show modRow (rowN k) 4 ∈ _
    rw [rowN_mod]; exact inn k hk
end L2.EH
end S_Q27
section S_Q28
set_option exponentiation.threshold 2000
set_option maxRecDepth 100000
set_option maxHeartbeats 4000000
namespace L2.EH
open PySem PySem.Spec PyProof.Rows StX
def spManyRight : Sp := fun vs H Q _ => ∃ (p : Addr) (hi : Nat), vs = [.ref p] ∧ Purse H p hi ∧ hi ≤ 10000 ∧ ∀ H', Kept p H H' → Q (.bl true) H'
theorem scManyRight : FnScope ["_law_source_here", "_law_same", "_law_j", "_law_spot", "_law_steps", "_law_rows", "_law_number_here", "_law_step", "_law_told", "_law_item", "_law_plain_here", "_law_claim_here"] ["_law_source_here"] (defScope sManyRight) := ⟨rfl, rfl, rfl, by decide +kernel, rfl, by decide +kernel, by decide +kernel⟩
abbrev nMany : List Str := ["_law_source_here", "_law_same", "_law_j", "_law_spot", "_law_steps", "_law_rows", "_law_number_here", "_law_step", "_law_told", "_law_item", "_law_plain_here", "_law_claim_here"]
def scM1 : Scope := lcScope (callArg (asgE (bodyAt sManyRight 0)))
def idRow (i : Nat) : List Int := (List.range 6).map fun j => if j = i then (1 : Int) else 0
theorem idM_get (i : Nat) (h : i < 6) : idM[i]? = some (idRow i) := by unfold idM; rw [List.getElem?_map, List.getElem?_range h]; rfl
theorem idRow_get (i j : Nat) (h : j < 6) : (ones (idRow i))[j]? = some (if j = i then 1 else 0, 1) := by unfold ones idRow; rw [List.getElem?_map, List.getElem?_map, List.getElem?_range h]; rfl
theorem bool_int (i j : Nat) : (if decide (V.int (j : Int) = V.int (i : Int)) = true then (1 : Int) else 0) = if j = i then 1 else 0 := by
  rw [eq_int_dec]
  by_cases h : j = i
  · simp [h]
  · have : ¬ (j : Int) = (i : Int) := by omega
    simp [h, this]
theorem shown_tf : PyData.shown (.list [.bool true, .bool false]) = ("[True, False]" : Str) := by decide +kernel
section
variable {P : Program} {w : World} {K : PySem.W.Frag} {mg : Str → Option Value} {base : Heap}
theorem ok_manyRight {f fD fN fA : Addr} {fd fdD fdN fdA : FuncData} (F : Fun K "_law_many_right" "_law_many_right" sManyRight f fd) (B : BN mg) (FD : Fn' P w K mg base 1 "_law_draw" fD fdD ["_law_source_here", "_law_many"] spDraw)
    (FN : Fn' P w K mg base 2 "_law_number" fN fdN ["_law_source_here", "_law_wide"] spNumber) (FA : Fn' P w K mg base 7 "accepts" fA fdA ["claim", "certificate"] (spAccepts K)) : FnG P w K mg base CX0 8 f fd ["_law_source_here"] spManyRight := by
  refine Fun.okG F scManyRight (fun vs H Q E h => ?_) (fun cdv A outer s H vs Q E hr hG h => ?_)
  · obtain ⟨p, hi, rfl, _⟩ := h
    rfl
  · obtain ⟨p, hi, rfl, hp, hhi, k⟩ := h
    have nd := scManyRight.nd
    refine ⟨_, pss_cons (ps_set (i := 1) nd rfl (Or.inl rfl) (pe_callTy call_tuple_of (by rfl) B.tuple (by decide +kernel) (pa_cons (pe_lc (own := [("_law_spot", 3)]) (g := gName 3) (tt := tYes) rfl nd (pi_range1 (by rfl) B.range (pa_cons pe_int pa_nil)) (blkOk_by (own := [("_law_spot", 3)]) (N := ["_law_source_here", "_law_same", "_law_j", "_law_spot", "_law_steps", "_law_rows", "_law_number_here", "_law_step", "_law_told", "_law_item", "_law_plain_here", "_law_claim_here"]) (sc := defScope sManyRight) (by decide +kernel))
        (fun _ _ _ _ _ => pg_name (i := 3) nd rfl (Or.inr rfl) (Or.inl rfl)) (fun _ _ _ _ _ => pts_nil)
        (fun _ _ _ _ _ => pe_callTy (call_tupleK (K := K) rfl) (by rfl) B.tuple (by decide +kernel) (pa_cons (pe_lc (own := [("_law_j", 2)]) (g := gName 2) (tt := tYes) rfl nd (pi_range1 (by rfl) B.range (pa_cons pe_int pa_nil)) (blkOk_by (own := [("_law_j", 2)]) (N := ["_law_source_here", "_law_same", "_law_j", "_law_spot", "_law_steps", "_law_rows", "_law_number_here", "_law_step", "_law_told", "_law_item", "_law_plain_here", "_law_claim_here"]) (sc := scIn scM1 (defScope sManyRight)) (by decide +kernel))
          (fun _ _ _ _ _ => pg_name (i := 2) nd rfl (Or.inl rfl) (Or.inr rfl)) (fun _ _ _ _ _ => pts_nil)
          (fun _ _ _ _ _ => pe_tup (pa_cons (pe_callTy call_int1 (by rfl) B.int (by decide +kernel) (pa_cons (pe_cmpR op_eq (pv 2) (pv 3) (nomark _)) pa_nil)) (pa_cons pe_int pa_nil)))) pa_nil))) pa_nil)))
      (pss_cons (ps_par (i := 4) (j := 5) (by rfl) nd rfl rfl (by decide) rfl rfl (pa_cons (pe_lst (pa_cons pe_int (pa_cons pe_int (pa_cons pe_int (pa_cons pe_int (pa_cons pe_int (pa_cons pe_int pa_nil))))))) (pa_cons (pe_lst pa_nil) pa_nil)) (by rfl))
      (pss_cons (ps_for PassesOwn.never rfl (pi_range1 (by rfl) B.range (pa_cons pe_int pa_nil)) (pg_name (i := 6) nd rfl (Or.inr rfl))
        (pss_one (ps_expr (pe_bm PySem.F.plainAttrs_list PySem.F.slot_list_append PySem.F.type_list_append mt_append (pv 5) (pa_cons (pe_callTy call_tuple_of (by rfl) B.tuple (by decide +kernel) (pa_cons (pe_lc (own := [("_law_step", 7)]) (g := gName 7) (tt := tYes) rfl nd (pi_list (pv 4)) (blkOk_by (own := [("_law_step", 7)]) (N := ["_law_source_here", "_law_same", "_law_j", "_law_spot", "_law_steps", "_law_rows", "_law_number_here", "_law_step", "_law_told", "_law_item", "_law_plain_here", "_law_claim_here"]) (sc := defScope sManyRight) (by decide +kernel))
            (fun _ _ _ _ _ => pg_name (i := 7) nd rfl (Or.inl rfl) (Or.inr rfl)) (fun _ _ _ _ _ => pts_nil)
            (fun _ _ _ _ _ => pe_op op_mod (pe_callTy call_int1 (by rfl) B.int (by decide +kernel) (pa_cons (pe_op op_fdiv (pv 6) (pv 7)) pa_nil)) pe_int)) pa_nil)) pa_nil)))))
      (pss_cons (ps_set (i := 8) nd rfl (Or.inl rfl) (pe_callTy call_tuple_of (by rfl) B.tuple (by decide +kernel) (pa_cons (pe_lc (own := [("_law_item", 9)]) (g := gName 9) (tt := tYes) rfl nd (pi_tup (pe_ix ix_list (pv 5) (pe_call FD.ok (by exact hr.mono (by decide)) (by rfl) FD.m FD.k FD.b .nil pass0 (pa_cons (pv 0) (pa_cons pe_int pa_nil))) (fun _ _ => rfl))) (blkOk_by (own := [("_law_item", 9)]) (N := ["_law_source_here", "_law_same", "_law_j", "_law_spot", "_law_steps", "_law_rows", "_law_number_here", "_law_step", "_law_told", "_law_item", "_law_plain_here", "_law_claim_here"]) (sc := defScope sManyRight) (by decide +kernel))
        (fun _ _ _ _ _ => pg_name (i := 9) nd rfl (Or.inl rfl) (Or.inr rfl)) (fun _ _ _ _ _ => pts_nil)
        (fun _ _ _ _ _ => pe_tup (pa_cons (pv 9) (pa_cons pe_int pa_nil)))) pa_nil)))
      (pss_cons (ps_set (i := 10) nd rfl (Or.inl rfl) (pe_tup (pa_cons (pv 1) (pa_cons (pv 1) (pa_cons (pe_callTy call_tuple_of (by rfl) B.tuple (by decide +kernel) (pa_cons (pe_lc (own := [("_law_j", 2)]) (g := gName 2) (tt := tYes) rfl nd (pi_range1 (by rfl) B.range (pa_cons pe_int pa_nil)) (blkOk_by (own := [("_law_j", 2)]) (N := ["_law_source_here", "_law_same", "_law_j", "_law_spot", "_law_steps", "_law_rows", "_law_number_here", "_law_step", "_law_told", "_law_item", "_law_plain_here", "_law_claim_here"]) (sc := defScope sManyRight) (by decide +kernel))
        (fun _ _ _ _ _ => pg_name (i := 2) nd rfl (Or.inl rfl) (Or.inr rfl)) (fun _ _ _ _ _ => pts_nil)
        (fun _ _ _ _ _ => pe_call FN.ok (by exact hr.mono (by decide)) (by rfl) FN.m FN.k FN.b .nil pass0 (pa_cons (pv 0) (pa_cons pe_int pa_nil)))) pa_nil)) (pa_cons (pv 8) pa_nil))))))
      (pss_cons (ps_set (i := 11) nd rfl (Or.inl rfl) (pe_tup (pa_cons pe_str (pa_cons (pv 10) (pa_cons pe_int (pa_cons (pe_tup (pa_cons pe_int (pa_cons pe_int (pa_cons pe_int (pa_cons pe_int pa_nil))))) pa_nil))))))
      (pss_one (ps_ret (pe_cmpR op_eq (pe_callB (call_rep hG hr.units) (by rfl) B.repr (by decide +kernel) (pa_cons (pe_lst (pa_cons (pe_call FA.ok (by exact hr) (by rfl) FA.m FA.k FA.b .nil pass0 (pa_cons (pv 11) (pa_cons (pe_callTy call_tuple_of (by rfl) B.tuple (by decide +kernel) (pa_cons (pe_slice sl_list (pv 5) po_none (po_some pe_int)) pa_nil)) pa_nil)))
          (pa_cons (pe_call FA.ok (by exact hr) (by rfl) FA.m FA.k FA.b .nil pass0 (pa_cons (pv 11) (pa_cons (pe_callTy call_tuple_of (by rfl) B.tuple (by decide +kernel) (pa_cons (pv 5) pa_nil)) pa_nil))) pa_nil))) pa_nil)) pe_str (by rfl))))))))), ?_⟩
    -- the same rows
    refine ⟨(6 : Int), rfl, by decide, by decide, fun D nD => ?_⟩
    refine lc_out (walk_range (lo := 0) (n := 6)) (fun i Hc => GrowD K H D (((idM.map ones).take i).map prowD) Hc) (GrowD.start nD) (fun _ _ _ _ => trivial) ?_ ?_
    · rintro i x H0 Hc hi g ⟨rfl, rfl⟩
      have eI : ((0 : Int) + (i : Nat)) = (i : Int) := by omega
      show gName 3 (V.int (0 + (i : Nat))) _ _ _
      rw [eI]
      refine ⟨rfl, (6 : Int), rfl, by decide, by decide, fun D2 nD2 => ?_⟩
      refine lc_out (walk_range (lo := 0) (n := 6)) (fun j Hd => GrowD K _ D2 (((ones (idRow i)).take j).map pairD) Hd) (GrowD.start nD2) (fun _ _ _ _ => trivial) ?_ ?_
      · rintro j y H1 Hd hj g2 ⟨rfl, rfl⟩
        have eJ : ((0 : Int) + (j : Nat)) = (j : Int) := by omega
        show gName 2 (V.int (0 + (j : Nat))) _ _ _
        rw [eJ]
        refine ⟨rfl, _, rfl, _, rfl, rfl, .inr ⟨_, rfl, by show 2 ≤ sizeLine; decide, fun tt nt => ?_⟩⟩
        rw [bool_int]
        refine GrowD.step nD2 g2 (same_new nt) (d := pairD (if j = i then 1 else 0, 1)) (pair_dp (SqT.of upd_same)) rfl (pairs_tup _) (by simp; omega) fun Hn gn => ?_
        rw [take_snoc' _ j _ (idRow_get i j hj), List.map_append]
        exact gn
      · rintro Hd ⟨acc2, g2, da2⟩
        rw [List.take_of_length_le (by simp [ones, idRow])] at da2
        refine ⟨D2, _, rfl, .inl ⟨SqL.of g2.d, fun q nq => ?_⟩⟩
        refine GrowD.step nD g (g2.s.trans (same_new nq)) (d := prowD (ones (idRow i))) (.tup (SqT.of upd_same) (dpAll_same (same_new nq) da2)) (prowD_tup _) (tupsOnly_map _ (fun r => prowD_tup _) _) (by simp; omega) fun Hn gn => ?_
        have ge : (idM.map ones)[i]? = some (ones (idRow i)) := by rw [List.getElem?_map, idM_get i hi]; rfl
        rw [take_snoc' _ i _ ge, List.map_append]
        exact gn
    rintro H1 ⟨acc1, g1, da1⟩
    rw [List.take_of_length_le (by rw [List.length_map, idM_rows.1]; exact Nat.le_refl _)] at da1
    refine ⟨D, _, rfl, .inl ⟨SqL.of g1.d, fun sm nsm => ?_⟩⟩
    have ssm := same_new (o := .tup acc1) nsm
    have hsm : Dp K (upd H1 sm (.tup acc1)) (.ref sm) (matD (idM.map ones)) := .tup (SqT.of upd_same) (dpAll_same ssm da1)
    have s02 := g1.s.trans ssm
    generalize upd H1 sm (.tup acc1) = H2 at *
    -- the rows
    refine ⟨by show 6 ≤ sizeLine; decide, fun l4 nl4 => ⟨by show 0 ≤ sizeLine; decide, fun Lr nLr => ⟨_, _, rfl, ?_⟩⟩⟩
    have s4 := same_new (o := .lst [V.int 1024, V.int 256, V.int 64, V.int 16, V.int 4, V.int 1]) nl4
    have hl4 : (upd H2 l4 (.lst [V.int 1024, V.int 256, V.int 64, V.int 16, V.int 4, V.int 1])) l4 = some (.lst (stepsN.map V.int)) := upd_same
    have sL := same_new (o := .lst []) nLr
    have hLr : (upd (upd H2 l4 (.lst [V.int 1024, V.int 256, V.int 64, V.int 16, V.int 4, V.int 1])) Lr (.lst [])) Lr = some (.lst []) := upd_same
    have hl4' := sL _ _ hl4
    have l4L : l4 ≠ Lr := ne_of_none hl4 nLr
    have s24 := s4.trans sL
    have nLr2 : H2 Lr = none := s4.free nLr
    have hLp : Lr ≠ p := fun e => by obtain ⟨_, _, _, h1, _⟩ := hp.same s02; rw [← e, nLr2] at h1; cases h1
    have p3 := (hp.same s02).same s24
    have sm3 := dp_same s24 hsm
    have kH3 : Kept p H (upd (upd H2 l4 (.lst [V.int 1024, V.int 256, V.int 64, V.int 16, V.int 4, V.int 1])) Lr (.lst [])) := Same.kept (s02.trans s24)
    generalize upd (upd H2 l4 (.lst [V.int 1024, V.int 256, V.int 64, V.int 16, V.int 4, V.int 1])) Lr (.lst []) = H3 at *
    refine ⟨(1025 : Int), rfl, by decide, by decide, ?_⟩
    refine for_range (lo := 0) (n := 1025) (fun i σ Hc => ∃ (ts : List Addr) (x6 : Option V), σ = [some (.ref p), some (.ref sm), none, none, some (.ref l4), some (.ref Lr), x6, none, none, none, none, none] ∧ (∀ b o, b ≠ Lr → H3 b = some o → Hc b = some o) ∧ RowsL Hc Lr ts (rowsN i))
      ⟨[], none, rfl, fun b o _ h => h, ⟨hLr, rfl, fun i t r h => by simp at h⟩⟩ ?_ ?_
    · rintro i σ Hc hi ⟨ts, x6, rfl, hk, hR⟩
      have eI : ((0 : Int) + (i : Nat)) = (i : Int) := by omega
      show gName 6 (V.int (0 + (i : Nat))) _ _ _
      rw [eI]
      refine ⟨_, rfl, .inl ⟨rfl, _, SqL.of hR.a⟩, _, rfl, l4, rfl, ⟨_, SqL.of (hk _ _ l4L hl4')⟩, fun D5 nD5 => ?_⟩
      refine lc_out (walk_list (xs := stepsN.map V.int)) (fun j Hd => Grow Hc D5 (((rowN i).take j).map V.int) Hd) (Grow.start nD5) (fun j Hd _ g => SqL.of (g.s _ _ (hk _ _ l4L hl4'))) ?_ ?_
      · rintro j y H5 Hd hj g ⟨rfl, hy⟩
        rw [List.getElem?_map] at hy
        cases es : stepsN[j]? with
        | none => rw [es] at hy; cases hy
        | some st =>
          rw [es] at hy
          cases hy
          have hst : 0 < st ∧ st < 1073741824 := by
            have hm : st ∈ stepsN := List.mem_of_getElem? es
            have h : (stepsN.all fun z => decide (0 < z) && decide (z < 1073741824)) = true := by decide +kernel
            have := List.all_eq_true.mp h st hm
            simpa using this
          have gz : (rowN i)[j]? = some ((i : Int) / st % 4) := by unfold rowN; rw [List.getElem?_map, es]; rfl
          have rl6 : (rowN i).length = 6 := by simp [rowN, stepsN]
          refine ⟨rfl, _, rfl, _, rfl, _, _, rfl, rfl, hst, .inl ⟨_, rfl, _, _, rfl, rfl, (by show (0 : Int) < 4; decide), _, g.d, small1000 (by rw [List.length_map, List.length_take]; omega), ?_⟩⟩
          have := g.step nD5 (V.int ((i : Int) / st % 4))
          rw [take_snoc' _ j _ gz, List.map_append]
          exact this
      · intro Hd g
        rw [List.take_of_length_le (by simp [rowN])] at g
        refine ⟨D5, _, rfl, .inl ⟨SqL.of g.d, fun q nq => ?_⟩⟩
        have sq := same_new (o := .tup ((rowN i).map V.int)) nq
        have hq : (upd Hd q (.tup ((rowN i).map V.int))) q = some (.tup ((rowN i).map V.int)) := upd_same
        have sx := g.s.trans sq
        generalize upd Hd q (.tup ((rowN i).map V.int)) = Hq at *
        have hLq := sx _ _ hR.a
        have tl : ts.length = i := by have := hR.l; rw [rowsN_len] at this; exact this
        refine ⟨Lr, _, _, rfl, rfl, hLq, Nat.lt_of_le_of_lt (by rw [List.length_map]; omega : _ ≤ 1025) (by decide), ts ++ [q], _, rfl, fun b o hb ho => by rw [upd_ne hb]; exact sx _ _ (hk b o hb ho), ⟨by rw [upd_same, List.map_append]; rfl, by rw [List.length_append, rowsN_len, tl]; rfl, fun j t r h1 h2 => ?_⟩⟩
        have kT : KeepT Hq (upd Hq Lr (.lst (ts.map V.ref ++ [V.ref q]))) := keepT_upd hLq rfl
        rw [rowsN_succ] at h2
        by_cases hj : j < ts.length
        · rw [List.getElem?_append_left hj] at h1
          rw [List.getElem?_append_left (by rw [rowsN_len]; omega)] at h2
          exact kT _ _ (sx _ _ (hR.t j t r h1 h2)) rfl
        · have hj2 : j = ts.length := by
            have := (List.getElem?_eq_some_iff.1 h1).1
            simp at this; omega
          rw [List.getElem?_append_right (by omega), hj2, Nat.sub_self] at h1
          rw [List.getElem?_append_right (by rw [rowsN_len]; omega), hj2, rowsN_len, tl, Nat.sub_self] at h2
          cases h1; cases h2
          exact kT _ _ hq rfl
    rintro σ Hc ⟨ts, x6, rfl, hk, hR⟩
    have tl : ts.length = 1025 := by have := hR.l; rw [rowsN_len] at this; exact this
    have pc : Purse Hc p hi := by
      obtain ⟨a1, a2, a3, a4, a5⟩ := p3
      exact ⟨a1, a2, a3, hk _ _ (Ne.symm hLp) a4, a5⟩
    have kHc : KeepT H3 Hc := fun b o hb ho => hk b o (fun e => by rw [e, hLr] at hb; cases hb; cases ho) hb
    have smc := dp_keep kHc (matD_tup _) sm3
    -- the row that tells
    refine ⟨_, rfl, _, rfl, p, hi, 1024, rfl, pc, by omega, by decide, by decide, fun d H4 hd0 hd1 k4 p4 => ?_⟩
    obtain ⟨dn, rfl⟩ : ∃ dn : Nat, d = (dn : Int) := ⟨d.toNat, by omega⟩
    have hdn : dn < 1024 := by omega
    have hLr4 := k4 _ _ hLp hR.a
    have htd : ts[dn]? = some (ts[dn]'(by omega)) := List.getElem?_eq_getElem (by omega)
    have hat : atI (ts.map V.ref) (dn : Int) = some (V.ref (ts[dn]'(by omega))) := atI_nat (by rw [List.getElem?_map, htd]; rfl)
    have htd4 := (k4.keepT pc) _ _ (hR.t dn _ _ htd (rowsN_get (by omega))) rfl
    have R4 : RowsL H4 Lr ts (rowsN 1025) := ⟨hLr4, hR.l, fun i t r h1 h2 => (k4.keepT pc) _ _ (hR.t i t r h1 h2) rfl⟩
    have sm4 := dp_keep (k4.keepT pc) (matD_tup _) smc
    refine ⟨Lr, _, _, _, rfl, rfl, SqL.of hLr4, hat, _, rfl, ⟨_, SqT.of htd4⟩, fun D6 nD6 => ?_⟩
    refine lc_out (walk_tup (xs := (rowN dn).map V.int)) (fun l He => GrowD K H4 D6 (((ones (rowN dn)).take l).map pairD) He) (GrowD.start nD6) (fun l He _ ⟨_, g, _⟩ => same_tup g.s (SqT.of htd4)) ?_ ?_
    · rintro l y H5 He hl g3 ⟨rfl, hy⟩
      rw [List.getElem?_map] at hy
      cases ey : (rowN dn)[l]? with
      | none => rw [ey] at hy; cases hy
      | some z =>
        rw [ey] at hy
        cases hy
        have ge : (ones (rowN dn))[l]? = some (z, 1) := by unfold ones; rw [List.getElem?_map, ey]; rfl
        have rl6 : (ones (rowN dn)).length = 6 := by simp [ones, rowN, stepsN]
        refine ⟨rfl, _, rfl, by show 2 ≤ sizeLine; decide, fun tt nt => ?_⟩
        refine GrowD.step nD6 g3 (same_new nt) (d := pairD (z, 1)) (pair_dp (SqT.of upd_same)) rfl (pairs_tup _) (by rw [List.length_map, List.length_take]; omega) fun Hn gn => ?_
        rw [take_snoc' _ l _ ge, List.map_append]
        exact gn
    rintro H5 ⟨acc5, g5, da5⟩
    rw [List.take_of_length_le (by simp [ones])] at da5
    refine ⟨D6, _, rfl, .inl ⟨SqL.of g5.d, fun td ntd => ?_⟩⟩
    have std := same_new (o := .tup acc5) ntd
    have htd6 : Dp K (upd H5 td (.tup acc5)) (.ref td) (prowD (ones (rowN dn))) := .tup (SqT.of upd_same) (dpAll_same std da5)
    have s46 := g5.s.trans std
    generalize upd H5 td (.tup acc5) = H6 at *
    have p6 := p4.same s46
    -- the first values
    refine ⟨_, rfl, _, rfl, (6 : Int), rfl, by decide, by decide, fun D7 nD7 => ?_⟩
    have hD7p : D7 ≠ p := fun e => by obtain ⟨_, _, _, h1, _⟩ := p6; rw [← e, nD7] at h1; cases h1
    refine lc_out (walk_range (lo := 0) (n := 6)) (fun i Hd => Kept p H6 Hd ∧ Purse Hd p (hi + 1 + i) ∧ ∃ r : List Int, r.length = i ∧ (∀ z, z ∈ r → z.natAbs ≤ 9) ∧ Hd D7 = some (.lst (r.map V.int))) ⟨Same.kept (same_new nD7), p6.upd hD7p, [], rfl, (fun z h => by cases h), upd_same⟩ (fun _ _ _ _ => trivial) ?_ ?_
    · rintro i x H0 Hd hi' ⟨kp, hpc, r, hrl, hrz, hD⟩ ⟨rfl, rfl⟩
      refine ⟨rfl, _, rfl, p, hi + 1 + i, 9, rfl, hpc, by omega, by decide, by decide, fun dd H' hdd kp' hp' => ?_⟩
      have hD' := kp' _ _ hD7p hD
      refine ⟨_, hD', small1000 (by rw [List.length_map]; omega), ?_, hp'.upd hD7p, r ++ [dd], by simp [hrl], fun z hz => ?_, by rw [upd_same, List.map_append]; rfl⟩
      · intro b o hb ho
        rw [upd_ne (ne_of_none ho nD7)]
        exact kp' b o hb (kp b o hb ho)
      · rcases List.mem_append.1 hz with h | h
        · exact hrz z h
        · rw [List.mem_singleton.1 h]; exact hdd
    rintro H7 ⟨k67, p7, hs, hsl, hsz, hD7⟩
    refine ⟨D7, _, rfl, .inl ⟨SqL.of hD7, fun fs nfs => ?_⟩⟩
    have sfs := same_new (o := .tup (hs.map V.int)) nfs
    have hfs : (upd H7 fs (.tup (hs.map V.int))) fs = some (.tup (hs.map V.int)) := upd_same
    have p8 := p7.same sfs
    have k68 : Kept p H6 (upd H7 fs (.tup (hs.map V.int))) := k67.trans (Same.kept sfs)
    generalize upd H7 fs (.tup (hs.map V.int)) = H8 at *
    have kT68 := k68.keepT p6
    have htd8 := dp_keep kT68 (prowD_tup _) htd6
    have sm8 := dp_keep kT68 (matD_tup _) (dp_same s46 sm4)
    have R8 : RowsL H8 Lr ts (rowsN 1025) := ⟨k68 _ _ hLp (s46 _ _ R4.a), R4.l, fun i t r h1 h2 => kT68 _ _ (s46 _ _ (R4.t i t r h1 h2)) rfl⟩
    refine ⟨_, rfl, by show 4 ≤ sizeLine; decide, fun pl npl => ?_⟩
    have spl := same_new (o := .tup [V.ref sm, V.ref sm, V.ref fs, V.ref td]) npl
    have hpl : Dp K (upd H8 pl (.tup [V.ref sm, V.ref sm, V.ref fs, V.ref td])) (.ref pl) (plainD (plainOf (manyL hs dn))) := .tup (SqT.of upd_same) (.cons (dp_same spl sm8) (.cons (dp_same spl sm8) (.cons (row_dp (SqT.of (spl _ _ hfs))) (.cons (dp_same spl htd8) .nil))))
    generalize upd H8 pl (.tup [V.ref sm, V.ref sm, V.ref fs, V.ref td]) = H9 at *
    -- the claim
    refine ⟨_, rfl, by show 4 ≤ sizeLine; decide, fun e4 ne4 => ⟨by show 4 ≤ sizeLine; decide, fun cl ncl => ?_⟩⟩
    have se4 := same_new (o := .tup [V.int 0, V.int 1, V.int 2, V.int 3]) ne4
    have he4 : (upd H9 e4 (.tup [V.int 0, V.int 1, V.int 2, V.int 3])) e4 = some (.tup (([0, 1, 2, 3] : List Int).map V.int)) := upd_same
    have scl := same_new (o := .tup [V.str "rests", V.ref pl, V.int 4, V.ref e4]) ncl
    have hcl : (upd (upd H9 e4 (.tup [V.int 0, V.int 1, V.int 2, V.int 3])) cl (.tup [V.str "rests", V.ref pl, V.int 4, V.ref e4])) cl = some (.tup [V.str "rests", V.ref pl, V.int 4, V.ref e4]) := upd_same
    have hpl2 := dp_same scl (dp_same se4 hpl)
    have he42 := scl _ _ he4
    have s8x := spl.trans (se4.trans scl)
    generalize upd (upd H9 e4 (.tup [V.int 0, V.int 1, V.int 2, V.int 3])) cl (.tup [V.str "rests", V.ref pl, V.int 4, V.ref e4]) = Hx at *
    have Rx : RowsL Hx Lr ts (rowsN 1025) := ⟨s8x _ _ R8.a, R8.l, fun i t r h1 h2 => s8x _ _ (R8.t i t r h1 h2)⟩
    have hz10 : ∀ z, z ∈ hs → z.natAbs < 2 ^ 10 := fun z hz => by
      have := hsz z hz
      have e10 : (2 : Nat) ^ 10 = 1024 := by decide
      omega
    have hLB := many_ok (k := dn) hsl hz10
    have hFl : Flat (plainOf (manyL hs dn)) := plain_flat hLB (by decide) (many_fits hsl)
    have rl : ∀ n r, r ∈ rowsN n → r.length ≤ 900 := fun n r hr => by
      obtain ⟨j, _, rfl⟩ := List.mem_map.1 hr
      simp [rowN, stepsN]
    -- 1024 rows
    refine ⟨_, rfl, _, rfl, _, rfl, Lr, _, rfl, SqL.of Rx.a, fun a1 na1 => ⟨a1, _, rfl, .inl ⟨SqL.of upd_same, fun q1 nq1 => ?_⟩⟩⟩
    have ecut : cutV (ts.map V.ref) none (some 1024) = (ts.take 1024).map V.ref := by
      unfold cutV
      rw [List.length_map, tl]
      show List.take 1024 (List.drop 0 (ts.map V.ref)) = _
      rw [List.drop_zero, List.map_take]
    rw [ecut] at nq1 ⊢
    have sa1 := same_new (o := .lst ((ts.take 1024).map V.ref)) na1
    have sq1 := same_new (o := .tup ((ts.take 1024).map V.ref)) nq1
    have hq1 : (upd (upd Hx a1 (.lst ((ts.take 1024).map V.ref))) q1 (.tup ((ts.take 1024).map V.ref))) q1 = some (.tup ((ts.take 1024).map V.ref)) := upd_same
    have sx1 := sa1.trans sq1
    generalize upd (upd Hx a1 (.lst ((ts.take 1024).map V.ref))) q1 (.tup ((ts.take 1024).map V.ref)) = Hy at *
    have T1 : RowsT Hy (.ref q1) (rowsN 1024) := ⟨q1, ts.take 1024, rfl, hq1, by rw [List.length_take, tl, rowsN_len]; rfl, fun i t r h1 h2 => by
      have hi : i < 1024 := by have := (List.getElem?_eq_some_iff.1 h2).1; rw [rowsN_len] at this; exact this
      rw [List.getElem?_take_of_lt hi] at h1
      rw [rowsN_get hi] at h2
      exact sx1 _ _ (Rx.t i t r h1 (by rw [rowsN_get (by omega)]; exact h2))⟩
    refine ⟨cl, .ref pl, e4, .ref q1, plainOf (manyL hs dn), 4, [0, 1, 2, 3], rowsN 1024, rfl, SqT.of (sx1 _ _ hcl), ⟨dp_same sx1 hpl2, hFl, SqT.of (sx1 _ _ he42), by decide, T1, by rw [rowsN_len]; decide, rl 1024⟩, fun b1 hb1 Hz sz => ?_⟩
    have eb1 : b1 = true := hb1.2 ((rests_due hLB (by decide) (by decide) (by rw [rowsN_len]; decide)).2 (many_due hdn hsl))
    subst eb1
    have sxz := sx1.trans sz
    -- one more
    refine ⟨_, rfl, _, rfl, Lr, _, rfl, .inl ⟨SqL.of (sxz _ _ Rx.a), fun q2 nq2 => ?_⟩⟩
    have sq2 := same_new (o := .tup (ts.map V.ref)) nq2
    have sx2 := sxz.trans sq2
    have T2 : RowsT (upd Hz q2 (.tup (ts.map V.ref))) (.ref q2) (rowsN 1025) := ⟨q2, ts, rfl, upd_same, by rw [tl, rowsN_len], fun i t r h1 h2 => sx2 _ _ (Rx.t i t r h1 h2)⟩
    refine ⟨cl, .ref pl, e4, .ref q2, plainOf (manyL hs dn), 4, [0, 1, 2, 3], rowsN 1025, rfl, SqT.of (sx2 _ _ hcl), ⟨dp_same sx2 hpl2, hFl, SqT.of (sx2 _ _ he42), by decide, T2, by rw [rowsN_len]; decide, rl 1025⟩, fun b2 hb2 Hw sw => ?_⟩
    have eb2 : b2 = false := by
      rw [Bool.eq_false_iff]
      intro z
      have := (hb2.1 z).c.rows.few
      rw [rowsN_len] at this
      exact absurd this (by decide)
    subst eb2
    refine ⟨by show 2 ≤ sizeLine; decide, fun lb nlb => ⟨_, .list [.bool true, .bool false], rfl, .lst (SqL.of upd_same) (.cons (.bl _) (.cons (.bl _) .nil)), by decide +kernel, by decide +kernel, by decide +kernel, by rw [shown_tf]; decide +kernel, ?_⟩⟩
    rw [shown_tf]
    refine ⟨rfl, ?_⟩
    have ed : decide ((V.str "[True, False]") = V.str "[True, False]") = true := decide_eq_true rfl
    rw [ed]
    have kHc0 : Kept p H Hc := fun b o hb ho => hk b o (ne_of_none (s02 _ _ ho) nLr2) (kH3 b o hb ho)
    exact k _ ((((kHc0.trans k4).trans (Same.kept s46)).trans k68).trans (Same.kept ((s8x.trans (sx2.trans sw)).trans (same_new nlb))))
end
end L2.EH
end S_Q28
section S_Z9
set_option maxRecDepth 100000
set_option maxHeartbeats 4000000
/-! t[::-1]; t * 1 -/
namespace L2.EH
open PySem PySem.Spec PyProof.Rows L2 HT
section
variable {prog : Program} {w : World} {A : Around} {E : Value → Shared → Prop} {s : Shared}
theorem slApplied_rev {sl : Addr} {vl vu vs : Value} {n : Nat} {Q : Int × Int × Nat → Shared → Prop} (hs : s.heap.IsSliceOf sl vl vu vs) (pl : IsPart vl none) (pu : IsPart vu none) (ps : IsPart vs (some (-1)))
    (h : Q ((n : Int) - 1, -1, n) s) : wpAny (model prog w) A (Builtin.Slice.sliceApplied (.ref sl) (pure (n : Int))) Q E s := by
  obtain ⟨os, hos, hcs, hds⟩ := id hs
  unfold Builtin.Slice.sliceApplied Builtin.Slice.sliceFields
  refine wpAny_bind (wpAny_bind (wpAny_field hos hds (x := vl) rfl (wpAny_bind (wpAny_field hos hds (x := vu) rfl (wpAny_bind (wpAny_field hos hds (x := vs) rfl (wpAny_pure ?_)))))))
  refine wpAny_bind (slicePart_ ps ?_)
  show wpAny _ _ (if ((-1 : Int) == 0) = true then _ else _) _ _ s
  rw [if_neg (by decide)]
  refine wpAny_bind (slicePart_ pl (wpAny_bind (slicePart_ pu (wpAny_bind (wpAny_pure ?_)))))
  have e1 : Builtin.Slice.sliceAdjust none none (-1) (n : Int) = ((n : Int) - 1, -1) := rfl
  have e2 : Builtin.Slice.slicePlaces ((n : Int) - 1) (-1) (-1) = n := by
    unfold Builtin.Slice.slicePlaces
    rw [if_neg (by decide)]
    by_cases h0 : (n : Int) - 1 > -1
    · rw [if_pos h0]
      have : ((n : Int) - 1 - -1 - 1) / (- -1) + 1 = n := by
        rw [show (- -1 : Int) = 1 by decide, Int.ediv_one]; omega
      rw [this]; omega
    · rw [if_neg h0]; omega
  show wpAny _ _ (match Builtin.Slice.sliceAdjust none none (-1) (n : Int) with | (lo, hi) => pure (lo, (-1 : Int), Builtin.Slice.slicePlaces lo hi (-1))) _ _ s
  rw [e1]
  show wpAny _ _ (pure ((n : Int) - 1, (-1 : Int), Builtin.Slice.slicePlaces ((n : Int) - 1) (-1) (-1))) _ _ s
  rw [e2]
  exact wpAny_pure h
theorem filterMap_some {α β : Type} {f : α → Option β} {g : α → β} : ∀ {l : List α}, (∀ m, m ∈ l → f m = some (g m)) → l.filterMap f = l.map g
  | [], _ => rfl
  | a :: l, h => by
    rw [List.filterMap_cons, h a (List.mem_cons_self ..), List.map_cons, filterMap_some fun m hm => h m (List.mem_cons_of_mem _ hm)]
theorem pick_rev (xs : Array Value) : ((List.range xs.size).filterMap fun (m : Nat) => xs[(((xs.size : Int) - 1) + (m : Int) * (-1)).toNat]?).toArray = xs.toList.reverse.toArray := by
  congr 1
  apply List.ext_getElem?
  intro i
  have e : (List.range xs.size).filterMap (fun (m : Nat) => xs[(((xs.size : Int) - 1) + (m : Int) * (-1)).toNat]?) = (List.range xs.size).map fun m => xs.toList.reverse[m]?.getD .none := by
    refine filterMap_some fun m hm => ?_
    have hm' := List.mem_range.1 hm
    have e1 : (((xs.size : Int) - 1) + (m : Int) * (-1)).toNat = xs.size - 1 - m := by omega
    rw [e1]
    have h2 : xs.size - 1 - m < xs.size := by omega
    have h3 : m < xs.toList.reverse.length := by simp; omega
    rw [List.getElem?_eq_getElem h3, Array.getElem?_eq_getElem h2]
    simp
  rw [e]
  by_cases hi : i < xs.size
  · have h3 : i < xs.toList.reverse.length := by simp; exact hi
    rw [List.getElem?_map, List.getElem?_range hi, List.getElem?_eq_getElem h3]
    show some (xs.toList.reverse[i]?.getD .none) = _
    rw [List.getElem?_eq_getElem h3]; rfl
  · rw [List.getElem?_eq_none (by simp; omega), List.getElem?_eq_none (by simp; omega)]
theorem getItem_tuple_rev {t sl : Addr} {items : Array Value} {vl vu vs : Value} {Q : Value → Shared → Prop} (ht : IsTup s.heap t items) (hs : s.heap.IsSliceOf sl vl vu vs) (pl : IsPart vl none) (pu : IsPart vu none) (ps : IsPart vs (some (-1)))
    (h : Q (.ref s.heap.objs.size) { s with heap := s.heap.push { cls := .type "tuple", data := .seq items.toList.reverse.toArray } })
    (hsz : items.size ≤ sizeLine) : wpAny (model prog w) A (getItem (.ref t) (.ref sl)) Q E s := by
  have htake : sizeOk (.seq items.toList.reverse.toArray) := by
    show items.toList.reverse.toArray.size ≤ sizeLine
    rw [List.size_toArray, List.length_reverse, Array.length_toList]
    exact hsz
  obtain ⟨os, hos, hcs, hds⟩ := id hs
  have hTs : s.TypeIs (.ref sl) "slice" := ⟨os, hos, hcs⟩
  unfold getItem
  try with_reducible refine wpAny_holding ?_
  first | refine wpAny_bind (wpAny_pure ?_) | skip
  refine wpAny_bind (wpAny_sequenceKey ht.typeIs (by decide) ?_)
  refine wpAny_bind (wpAny_callSpecial?_slot (name := Str.ofString "__getitem__") ht.typeIs PyProof.Rows.slot_tuple_getitem
    (wpAny_call_entry PyProof.Rows.slot_tuple_getitem ht.typeIs entry_tuple_getitem ?_ (args_tuple_getitem _ _)))
  show wpAny _ _ (Builtin.Tuple.tupleItemsOf (.ref t) >>= _) _ _ s
  refine wpAny_bind (tupleItemsOf_ ht ?_)
  refine wpAny_bind (wpAny_typeOf hTs ?_)
  rw [if_pos (by decide)]
  refine wpAny_bind (slApplied_rev hs pl pu ps ?_)
  have hno : ¬ (((items.size : Int) - 1 == 0 && (-1 : Int) == 1 && items.size == items.size) = true) := by
    intro q
    rw [Bool.and_eq_true, Bool.and_eq_true] at q
    exact absurd q.1.2 (by decide)
  show wpAny _ _ (if ((items.size : Int) - 1 == 0 && (-1 : Int) == 1 && items.size == items.size) = true then _ else _) _ _ s
  rw [if_neg hno]
  have h : wpAny (model prog w) A (pure (Value.ref s.heap.objs.size)) Q E { s with heap := s.heap.push { cls := .type "tuple", data := .seq items.toList.reverse.toArray } } := wpAny_pure h
  rw [pick_rev]
  first
    | exact wpAny_bind (m := Builtin.Tuple.tupleExact _) (wpAny_newObj_type (wpAny_pure ⟨_, rfl, h⟩) htake)
    | exact wpAny_bind (m := Builtin.Tuple.tupleExact _) (wpAny_newObj_type (wpAny_bind (wpAny_pure (wpAny_pure ⟨_, rfl, h⟩))) htake)
    | exact wpAny_bind (wpAny_bind (m := Builtin.Tuple.tupleExact _) (wpAny_newObj_type (wpAny_pure (wpAny_pure ⟨_, rfl, h⟩)) htake))
    | exact wpAny_bind (wpAny_bind (m := Builtin.Tuple.tupleExact _) (wpAny_newObj_type (wpAny_pure ⟨_, rfl, h⟩) htake))
end
/-! ### xs[::-1], xs a tuple -/
def tRevT (K : PySem.W.Frag) (te : TE) : TE := fun σ H Q => te σ H fun x H1 => ∃ a xs, x = .ref a ∧ SqT K H1 a xs ∧ ∀ p, H1 p = none → Q (.ref p) (upd H1 p (.tup xs.reverse))
theorem pe_revT {X : Cx} {e : Expr} {te : TE} {k : Nat} {p1 p2 p3 pos : Pos} (he : PE X e te) : PE X (.Subscript e (.Slice none none (some (.UnaryOp .USub (.Constant (.int 1) k p1) p2)) p3) pos) (tRevT X.K te) := by
  refine ⟨fun pins s σ H Q I h => ?_⟩
  refine Subscript_ (thn (he.run pins s σ H _ I h) fun v s1 ⟨x, H1, I1, r1, q1⟩ => ?_)
  obtain ⟨a, xs, ex, hx, q⟩ := q1
  subst ex
  cases r1
  have hst : PO X (some (.UnaryOp .USub (.Constant (.int 1) k p1) p2)) (tPart (tUn (rU fun i => .int (-i)) (tC (.int 1)))) := po_some (pe_un un_neg pe_int)
  refine wpAny_Slice (thn (po_none.run pins s1 σ H1 (fun o H2 => o = none ∧ H2 = H1) I1 ⟨rfl, rfl⟩) fun vl s2 ⟨l, H2, I2, pl, el, e2⟩ => ?_)
  subst el e2
  refine thn (po_none.run pins s2 σ H2 (fun o H3 => o = none ∧ H3 = H2) I2 ⟨rfl, rfl⟩) fun vu s3 ⟨u, H3, I3, pu, eu, e3⟩ => ?_
  subst eu e3
  refine thn (hst.run pins s3 σ H3 (fun o H4 => o = some (-1) ∧ H4 = H3) I3 ⟨1, rfl, -1, rfl, rfl, rfl⟩) fun vs s4 ⟨o, H4, I4, ps, eo, e4⟩ => ?_
  subst eo e4
  have I5 : Inv X pins σ H4 { s4 with heap := s4.heap.push { cls := .type "slice", data := .fields #[vl, vu, vs] } } := I4.kept (t' := s4.toks) fun b ob q => Heap.get?_push_of_some _ q
  obtain ⟨its, r, ht, hz⟩ := I5.tuple hx
  have hlen := r.length
  show wpAny (model X.prog X.w) X.A (subscriptTail e (.Slice none none (some (.UnaryOp .USub (.Constant (.int 1) k p1) p2)) p3) (.ref a) (.ref s4.heap.objs.size)) (EP X pins σ Q) X.xe { s4 with heap := s4.heap.push { cls := .type "slice", data := .fields #[vl, vu, vs] } }
  refine tail_any (ops := [.ref a, .ref s4.heap.objs.size]) ht.typeIs (PyProof.Rows.slot_tuple_getitem.lookup) ?_ (by with_unfolding_all rfl)
  refine getItem_tuple_rev ht (Heap.IsSliceOf.new _ vl vu vs) pl pu ps ?_ (by rw [List.size_toArray]; omega)
  refine ⟨.ref _, _, I5.laid (t' := s4.toks) (o := .tup xs.reverse) (fun b ob q => Heap.get?_push_of_some _ q) (Nat.le_refl _) ?_, rfl, q _ (I5.hok.fresh (Nat.le_refl _))⟩
  exact ⟨by rw [List.length_reverse]; exact hz, _, r.reverse, IsTup.new _ _⟩
/-! ### t * k, also for k = 1 -/
theorem tuple_mul1 (l : Addr) (items : Array Value) (n : Nat) (dd : Option Addr) (sl : Array (Option Value)) (u : Tok) :
    Meets (Builtin.«tuple.__mul__» ⟨[.ref l, .int 1 u], []⟩) (fun _ R s => s.heap.get? l = some { cls := .type "tuple", dict := dd, data := .seq items n, slots := sl } ∧ R (.ok (.ret (Value.ref l))) s) :=
  .of_wp fun prog w A R s h => by
    obtain ⟨hp, g, d, tk, os⟩ := s
    obtain ⟨hl, h⟩ := h
    have f1 := AutoSeq1.idx_int
    wp_walk using wpAny_loadPart' hl
    exact ⟨_, rfl, h⟩
def rRepT1 (K : PySem.W.Frag) : R2 := fun x y H Q => ∃ l k xs, x = .ref l ∧ y = .int k ∧ SqT K H l xs ∧ xs ≠ [] ∧ 1 ≤ k ∧ k ≤ 1000 ∧ xs.length ≤ 1000 ∧ (k = 1 → Q (.ref l) H) ∧ (2 ≤ k → ∀ p, H p = none → Q (.ref p) (upd H p (.tup (List.replicate k.toNat xs).flatten)))
theorem op_repT1 {X : Cx} : OpR X (binaryOp .Mult) (rRepT1 X.K) := by
  intro pins s σ H x y v u Q I rx ry h
  obtain ⟨l, k, xs, rfl, rfl, hT, hne, h1, h2, hz, q1, q2⟩ := h
  by_cases hk : 2 ≤ k
  · exact op_repT pins s σ H _ _ v u Q I rx ry ⟨l, k, xs, rfl, rfl, hT, hne, hk, h2, hz, q2 hk⟩
  · have ek : k = 1 := by omega
    subst ek
    cases rx
    obtain ⟨t, rfl⟩ := ry
    obtain ⟨its, r, ⟨⟨cls, dd, data, sl⟩, ho, hc, n, hd⟩, hs⟩ := I.tuple hT
    simp only at hc hd
    subst hc hd
    refine wpAny_binaryOp_repeat_ref (T := "tuple") (U := "int") (by decide) ⟨_, ho, rfl⟩ (fun s' => typeIs_int s' 1 t) noFill_tuple_mul F.fills_int_mul F.slot_int_rmul repeat_tuple F.slot_int_index.lookup
      (call_meets F.slot_int_rmul (typeIs_int s 1 t) F.entry_int_rmul (F.args_int_rmul_2 _ _) (int_rmul_tuple 1 t l its.toArray n dd sl)
        ⟨ho, rfl, ⟨_, ho, rfl⟩, call_meets F.slot_tuple_mul ⟨_, ho, rfl⟩ F.entry_tuple_mul (F.args_tuple_mul_2 _ _) (tuple_mul1 l its.toArray n dd sl t) ⟨ho, ?_⟩⟩)
    exact ⟨.ref l, H, I, rfl, q1 rfl⟩
end L2.EH
end S_Z9
section S_Q29
set_option exponentiation.threshold 2000
set_option maxRecDepth 100000
set_option maxHeartbeats 4000000
namespace L2.EH
open PySem PySem.Spec PyProof.Rows StX
def spRight : Sp := fun vs H Q _ => ∃ (p : Addr) (hi : Nat), vs = [.ref p] ∧ Purse H p hi ∧ hi ≤ 10 ∧ ∀ H', Kept p H H' → Q (.bl true) H'
theorem scRight : FnScope ["_law_source_here", "_law_many", "_law_modulus_here", "_law_some", "_law_rows", "_law_ends", "_law_plain_here", "_law_more", "_law_at_here", "_law_lost", "_law_less", "_law_item", "_law_other", "_law_due_here", "_law_turn", "_law_odd", "_law_told"] ["_law_source_here"] (defScope sRight) := ⟨rfl, rfl, rfl, by decide +kernel, rfl, by decide +kernel, by decide +kernel⟩
theorem shown_t : PyData.shown (.bool true) = ("True" : Str) := by decide +kernel
theorem shown_len (b : Bool) : (PyData.shown (.bool b)).length ≤ sizeLine := by cases b <;> decide +kernel
theorem rep_bool {K : PySem.W.Frag} {H : Hp} {b : Bool} {Q : VK} (q : Q (.str (PyData.shown (.bool b))) H) : rRep K [V.bl b] H Q :=
  ⟨_, .bool b, rfl, .bl b, rfl, rfl, by show PyData.depth (.bool b) ≤ 8; simp [PyData.depth], shown_len b, q⟩
theorem rgV_range {m : Int} (h : 0 ≤ m) : rgV 0 m = (rangeI m.toNat).map V.int := by
  unfold rgV rangeI
  rw [List.map_map, Int.sub_zero]
  refine List.map_congr_left fun i _ => ?_
  show V.int (0 + (i : Int)) = V.int (i : Int)
  rw [Int.zero_add]
theorem same_bool {a b : Bool} {P1 P2 : Prop} (h1 : a = true ↔ P1) (h2 : b = true ↔ P2) (h : P1 ↔ P2) : a = b := by
  cases a <;> cases b
  · rfl
  · exact absurd (h1.2 (h.2 (h2.1 rfl))) (by simp)
  · exact absurd (h2.2 (h.1 (h1.1 rfl))) (by simp)
  · rfl
/-! ### rules that are not whole -/
def oddR (L : LR) : Plain := ⟨L.even.map ones, L.odd.map ones, L.heads, (1, 2) :: ones (L.told.drop 1)⟩
theorem shr_two_from : ∀ (r : List Int), (ones r).foldl (fun n p => Nat.lcm n p.2.natAbs) 2 = 2
  | [] => rfl
  | z :: r => by
    show (ones r).foldl (fun n p => Nat.lcm n p.2.natAbs) (Nat.lcm 2 1) = 2
    exact shr_two_from r
theorem shr_two (r : List Int) : shr ((1, 2) :: ones r) = 2 := shr_two_from r
theorem odd_flat {L : LR} {n b : Nat} (h : LRB L n b) (hn : n ≤ 100) (h0 : 1 ≤ n) (hf : FitsL L.even L.heads) : Flat (oddR L) := by
  have F := plain_flat h hn hf
  have he : (plainOf L).even.length = n := by simp [plainOf, h.e]
  have hok := F.ok
  unfold Plain.ok at hok
  rw [he] at hok
  simp only [Bool.and_eq_true] at hok
  obtain ⟨o1, o2, o3, o4, _, o6⟩ := hok
  have hl : ((1, 2) :: ones (L.told.drop 1)).length = n := by simp [ones, h.t.1]; omega
  refine ⟨?_, ⟨F.b.el, F.b.ol, F.b.fl, F.b.e, F.b.o, ⟨by show ((1, 2) :: ones (L.told.drop 1)).length ≤ 900; omega, fun i => ?_, fun q hq => ?_⟩, F.b.f⟩, F.e, F.o⟩
  · unfold Plain.ok
    have he2 : (oddR L).even.length = n := he
    rw [he2]
    simp only [Bool.and_eq_true]
    refine ⟨o1, o2, o3, o4, ?_, o6⟩
    unfold frowOk
    rw [Bool.and_eq_true]
    refine ⟨decide_eq_true (by show ((((1, 2) :: ones (L.told.drop 1)).length : Nat) : Int) = (n : Int); rw [hl]), List.all_eq_true.mpr fun q hq => ?_⟩
    rcases List.mem_cons.1 (show q ∈ (1, 2) :: ones (L.told.drop 1) from hq) with rfl | hq
    · decide +kernel
    · obtain ⟨z, _, rfl⟩ := List.mem_map.1 hq
      unfold fracOk
      rw [Bool.and_eq_true]
      exact ⟨decide_eq_true (by show (1 : Int) ≤ 1; decide), decide_eq_true (by show Int.gcd z 1 = 1; simp)⟩
  · show shr (List.take i ((1, 2) :: ones (L.told.drop 1))) < 2 ^ 60
    match i with
    | 0 => simp [shr]
    | i + 1 =>
      rw [List.take_succ_cons, ones_take, shr_two]
      decide
  · rcases List.mem_cons.1 (show q ∈ (1, 2) :: ones (L.told.drop 1) from hq) with rfl | hq
    · exact ⟨by decide, by decide +kernel⟩
    · obtain ⟨z, hz, rfl⟩ := List.mem_map.1 hq
      exact ⟨by show (1 : Int).natAbs < 2 ^ 60; decide, Nat.lt_of_lt_of_le (h.t.2 z (List.mem_of_mem_drop hz)) (Nat.pow_le_pow_right (by decide) h.bits.2)⟩
theorem dpAll_drop {K : PySem.W.Frag} {H : Hp} : ∀ {vs : List V} {ds : List PyData}, DpAll K H vs ds → DpAll K H (vs.drop 1) (ds.drop 1)
  | _, _, .nil => .nil
  | _, _, .cons _ r => r
theorem rep1 {K : PySem.W.Frag} {H : Hp} {z : Addr} {n : Nat} {Q : VK} (h : H z = some (.tup [V.int 0])) (h1 : 1 ≤ n) (h2 : n ≤ 2) (k : ∀ H' zz (r : List Int), Same H H' → H' zz = some (.tup (r.map V.int)) → r.length ≤ 2 → Q (.ref zz) H') : rRepT1 K (.ref z) (.int (n : Int)) H Q := by
  refine ⟨z, (n : Int), [V.int 0], rfl, rfl, SqT.of h, by simp, by omega, by omega, by decide, fun _ => k H z [0] (Same.refl H) h (by decide), fun hn p np => ?_⟩
  have : n = 2 := by omega
  subst this
  exact k _ p [0, 0] (same_new np) upd_same (by decide)
/-- what stays while the source is drawn from -/
structure Ctx (K : PySem.W.Frag) (L : LR) (E : List Int) (rs : List (List Int)) (sv : V) (pl a1 a2 : Addr) (H : Hp) : Prop where
  s : Dp K H sv (lawD L)
  p : Dp K H (.ref pl) (plainD (plainOf L))
  r : RowsT H (.ref a1) rs
  e : H a2 = some (.tup (E.map V.int))
theorem RowsT.keep {H H' : Hp} {v : V} {rs : List (List Int)} (s : KeepT H H') (h : RowsT H v rs) : RowsT H' v rs := by
  obtain ⟨a, ts, e, h1, h2, h3⟩ := h.ex
  exact ⟨a, ts, e, s _ _ h1 rfl, h2, fun i t r e1 e2 => s _ _ (h3 i t r e1 e2) rfl⟩
theorem Ctx.keep {K : PySem.W.Frag} {L : LR} {E : List Int} {rs : List (List Int)} {sv : V} {pl a1 a2 : Addr} {H H' : Hp} (s : KeepT H H') (h : Ctx K L E rs sv pl a1 a2 H) : Ctx K L E rs sv pl a1 a2 H' :=
  ⟨dp_keep s (lawD_tup L) h.s, dp_keep s (plainD_tup _) h.p, h.r.keep s, s _ _ h.e rfl⟩
section
variable {P : Program} {w : World} {K : PySem.W.Frag} {mg : Str → Option Value} {base : Heap}
theorem ok_right {f fD fR fP fL fA fT fU fB fM : Addr} {fd fdD fdR fdP fdL fdA fdT fdU fdB fdM : FuncData} (F : Fun K "_law_right" "_law_right" sRight f fd) (B : BN mg) (FD : Fn' P w K mg base 1 "_law_draw" fD fdD ["_law_source_here", "_law_many"] spDraw)
    (FR : Fn' P w K mg base 4 "_law_rule" fR fdR ["_law_source_here", "_law_many", "_law_wide"] (spRule K)) (FP : Fn' P w K mg base 3 "_law_papers" fP fdP ["_law_some", "_law_modulus_here"] (spPapers K))
    (FL : Fn' P w K mg base 1 "_law_plain" fL fdL ["_law_some"] (spPlain K)) (FA : Fn' P w K mg base 7 "accepts" fA fdA ["claim", "certificate"] (spAccepts K)) (FT : Fn' P w K mg base 3 "_law_at" fT fdT ["_law_some", "_law_at_here"] (spAt K))
    (FU : Fn' P w K mg base 3 "_law_due" fU fdU ["_law_some", "_law_modulus_here", "_law_ends", "_law_rows"] (spDue K)) (FB : Fn' P w K mg base 2 "_law_bent" fB fdB ["_law_source_here", "_law_rows", "_law_modulus_here"] (spBent K))
    (GM : FnG P w K mg base CX0 8 fM fdM ["_law_source_here"] spManyRight) (mM : mg "_law_many_right" = some (.ref fM)) (kM : PySem.W.keepIn K (.ref fM) = true) (bM : Binds K fdM ["_law_source_here"] []) :
    FnG P w K mg base CX0 9 f fd ["_law_source_here"] spRight := by
  refine Fun.okG F scRight (fun vs H Q E h => ?_) (fun cdv A outer s H vs Q E hr hG h => ?_)
  · obtain ⟨p, hi, rfl, _⟩ := h
    rfl
  · obtain ⟨p, hi, rfl, hp, hhi, k⟩ := h
    have nd := scRight.nd
    have hu := hu_of hr
    refine ⟨_, pss_cons (ps_asg (pe_tup (pa_cons (pe_op op_add pe_int (pe_call FD.ok (by exact hr.mono (by decide)) (by rfl) FD.m FD.k FD.b .nil pass0 (pa_cons (pv 0) (pa_cons pe_int pa_nil)))) (pa_cons (pe_op op_add pe_int (pe_call FD.ok (by exact hr.mono (by decide)) (by rfl) FD.m FD.k FD.b .nil pass0 (pa_cons (pv 0) (pa_cons pe_int pa_nil)))) pa_nil))) (pg_tup rfl (pgs_cons (pg_name (i := 1) nd rfl (Or.inl rfl)) (pgs_cons (pg_name (i := 2) nd rfl (Or.inr rfl)) pgs_nil))))
      (pss_cons (ps_set (i := 3) nd rfl (Or.inr rfl) (pe_call FR.ok (by exact hr.mono (by decide)) (by rfl) FR.m FR.k FR.b .nil pass0 (pa_cons (pv 0) (pa_cons (pv 1) (pa_cons (pe_ix ix_list (pe_lst (pa_cons pe_int (pa_cons pe_int (pa_cons pe_int (pa_cons (pe_op op_pow pe_int pe_int) pa_nil))))) (pe_call FD.ok (by exact hr.mono (by decide)) (by rfl) FD.m FD.k FD.b .nil pass0 (pa_cons (pv 0) (pa_cons pe_int pa_nil))) (fun _ _ => rfl)) pa_nil)))))
      (pss_cons (ps_asg (pe_call FP.ok (by exact hr.mono (by decide)) (by rfl) FP.m FP.k FP.b .nil pass0 (pa_cons (pv 3) (pa_cons (pv 2) pa_nil))) (pg_lst rfl (pgs_cons (pg_name (i := 4) nd rfl (Or.inl rfl)) (pgs_cons (pg_name (i := 5) nd rfl (Or.inr rfl)) pgs_nil))))
      (pss_cons (ps_set (i := 6) nd rfl (Or.inl rfl) (pe_call FL.ok (by exact hr.mono (by decide)) (by rfl) FL.m FL.k FL.b .nil pass0 (pa_cons (pv 3) pa_nil)))
      (pss_cons (ps_if (pt_cmpR op_ne (pe_callB (call_rep hG hr.units) (by rfl) B.repr (by decide +kernel) (pa_cons (pe_call FA.ok (by exact hr.mono (by decide)) (by rfl) FA.m FA.k FA.b .nil pass0 (pa_cons (pe_tup (pa_cons pe_str (pa_cons (pv 6) (pa_cons (pv 2) (pa_cons (pv 5) pa_nil))))) (pa_cons (pv 4) pa_nil))) pa_nil)) pe_str (by rfl)) (pss_one (ps_ret pe_bl)) pss_nil)
      (pss_cons (ps_if (pt_not (pt_val (pe_callB (cr_all rfl) (by rfl) B.all (by decide +kernel) (pa_cons (pe_lc (own := [("_law_at_here", 8)]) (g := gName 8) (tt := tYes) rfl nd (pi_range1 (by rfl) B.range (pa_cons pe_int pa_nil)) (blkOk_by (own := [("_law_at_here", 8)]) (N := ["_law_source_here", "_law_many", "_law_modulus_here", "_law_some", "_law_rows", "_law_ends", "_law_plain_here", "_law_more", "_law_at_here", "_law_lost", "_law_less", "_law_item", "_law_other", "_law_due_here", "_law_turn", "_law_odd", "_law_told"]) (sc := defScope sRight) (by decide +kernel))
          (fun _ _ _ _ _ => pg_name (i := 8) nd rfl (Or.inl rfl) (Or.inr rfl)) (fun _ _ _ _ _ => pts_nil)
          (fun _ _ _ _ _ => pe_cmpR (op_inK (K := K) rfl) (pe_op op_mod (pe_callTy call_int1 (by rfl) B.int (by decide +kernel) (pa_cons (pe_call FT.ok (by exact hr.mono (by decide)) (by rfl) FT.m FT.k FT.b .nil pass0 (pa_cons (pv 3) (pa_cons (pv 8) pa_nil))) pa_nil)) (pv 2)) (pv 5) (by rfl))) pa_nil)))) (pss_one (ps_ret pe_bl)) pss_nil)
      (pss_cons (ps_set (i := 7) nd rfl (Or.inl rfl) (pe_tupRg rfl (by rfl) B.tuple (prg_1 (by rfl) B.range (pv 2))))
      (pss_cons (ps_set (i := 9) nd rfl (Or.inr rfl) (pe_ix ix_tup (pv 5) (pe_call FD.ok (by exact hr.mono (by decide)) (by rfl) FD.m FD.k FD.b .nil pass0 (pa_cons (pv 0) (pa_cons (pe_callB call_len (by rfl) B.len boot_len (pa_cons (pv 5) pa_nil)) pa_nil))) (fun _ _ => rfl)))
      (pss_cons (ps_set (i := 10) nd rfl (Or.inl rfl) (pe_callTy call_tuple_of (by rfl) B.tuple (by decide +kernel) (pa_cons (pe_lc (own := [("_law_item", 11)]) (g := gName 11) rfl nd (pi_tup (pv 5)) (blkOk_by (own := [("_law_item", 11)]) (N := ["_law_source_here", "_law_many", "_law_modulus_here", "_law_some", "_law_rows", "_law_ends", "_law_plain_here", "_law_more", "_law_at_here", "_law_lost", "_law_less", "_law_item", "_law_other", "_law_due_here", "_law_turn", "_law_odd", "_law_told"]) (sc := defScope sRight) (by decide +kernel))
          (fun _ _ _ _ _ => pg_name (i := 11) nd rfl (Or.inl rfl) (Or.inr rfl)) (fun _ _ _ _ _ => pts_one (pt_cmpR op_ne (pv 11) (pv 9) (nomark _))) (fun _ _ _ _ _ => pv 11)) pa_nil)))
      (pss_cons (ps_for PassesOwn.never rfl (pi_list (pe_lst (pa_cons (pv 7) (pa_cons (pv 10) (pa_cons (pe_revT (pv 5)) (pa_cons (pe_op op_catA (pv 5) (pe_tup (pa_cons (pv 2) pa_nil))) (pa_cons (pe_op op_catA (pe_tup (pa_cons (pe_un un_neg pe_int) pa_nil)) (pv 5)) (pa_cons (pe_op op_catA (pv 5) (pv 5)) pa_nil)))))))) (pg_name (i := 12) nd rfl (Or.inl rfl))
        (pss_cons (ps_set (i := 13) nd rfl (Or.inl rfl) (pe_call FU.ok (by exact hr.mono (by decide)) (by rfl) FU.m FU.k FU.b .nil pass0 (pa_cons (pv 3) (pa_cons (pv 2) (pa_cons (pv 12) (pa_cons (pv 4) pa_nil))))))
        (pss_one (ps_if (pt_cmpR op_ne (pe_callB (call_rep hG hr.units) (by rfl) B.repr (by decide +kernel) (pa_cons (pe_call FA.ok (by exact hr.mono (by decide)) (by rfl) FA.m FA.k FA.b .nil pass0 (pa_cons (pe_tup (pa_cons pe_str (pa_cons (pv 6) (pa_cons (pv 2) (pa_cons (pv 12) pa_nil))))) (pa_cons (pv 4) pa_nil))) pa_nil)) (pe_callB (call_rep hG hr.units) (by rfl) B.repr (by decide +kernel) (pa_cons (pv 13) pa_nil)) (by rfl)) (pss_one (ps_ret pe_bl)) pss_nil))))
      (pss_cons (ps_for PassesOwn.never rfl (pi_range1 (by rfl) B.range (pa_cons pe_int pa_nil)) (pg_name (i := 14) nd rfl (Or.inl rfl))
        (pss_cons (ps_set (i := 12) nd rfl (Or.inl rfl) (pe_call FB.ok (by exact hr.mono (by decide)) (by rfl) FB.m FB.k FB.b .nil pass0 (pa_cons (pv 0) (pa_cons (pv 4) (pa_cons (pv 2) pa_nil)))))
        (pss_cons (ps_set (i := 13) nd rfl (Or.inl rfl) (pe_call FU.ok (by exact hr.mono (by decide)) (by rfl) FU.m FU.k FU.b .nil pass0 (pa_cons (pv 3) (pa_cons (pv 2) (pa_cons (pv 5) (pa_cons (pv 12) pa_nil))))))
        (pss_one (ps_if (pt_cmpR op_ne (pe_callB (call_rep hG hr.units) (by rfl) B.repr (by decide +kernel) (pa_cons (pe_call FA.ok (by exact hr.mono (by decide)) (by rfl) FA.m FA.k FA.b .nil pass0 (pa_cons (pe_tup (pa_cons pe_str (pa_cons (pv 6) (pa_cons (pv 2) (pa_cons (pv 5) pa_nil))))) (pa_cons (pv 12) pa_nil))) pa_nil)) (pe_callB (call_rep hG hr.units) (by rfl) B.repr (by decide +kernel) (pa_cons (pv 13) pa_nil)) (by rfl)) (pss_one (ps_ret pe_bl)) pss_nil)))))
      (pss_cons (ps_set (i := 15) nd rfl (Or.inl rfl) (pe_tup (pa_cons (pe_ix ix_tup (pv 6) pe_int (fun _ _ => rfl)) (pa_cons (pe_ix ix_tup (pv 6) pe_int (fun _ _ => rfl)) (pa_cons (pe_ix ix_tup (pv 6) pe_int (fun _ _ => rfl)) (pa_cons (pe_op op_catA (pe_tup (pa_cons (pe_tup (pa_cons pe_int (pa_cons pe_int pa_nil))) pa_nil)) (pe_slice sl_tup (pe_ix ix_tup (pv 6) pe_int (fun _ _ => rfl)) (po_some pe_int) po_none)) pa_nil))))))
      (pss_cons (ps_set (i := 16) nd rfl (Or.inl rfl) (pe_lst (pa_cons (pe_call FA.ok (by exact hr.mono (by decide)) (by rfl) FA.m FA.k FA.b .nil pass0 (pa_cons (pe_tup (pa_cons pe_str (pa_cons (pv 15) (pa_cons (pv 2) (pa_cons (pv 7) pa_nil))))) (pa_cons (pv 4) pa_nil)))
          (pa_cons (pe_call FA.ok (by exact hr.mono (by decide)) (by rfl) FA.m FA.k FA.b .nil pass0 (pa_cons (pe_tup (pa_cons pe_str (pa_cons (pv 6) (pa_cons pe_int (pa_cons (pe_tup (pa_cons pe_int pa_nil)) pa_nil))))) (pa_cons (pe_tup (pa_cons (pe_op op_repT1 (pe_tup (pa_cons pe_int pa_nil)) (pv 1)) pa_nil)) pa_nil))) pa_nil))))
      (pss_cons (ps_expr (pe_bm PySem.F.plainAttrs_list PySem.F.slot_list_append PySem.F.type_list_append mt_append (pv 16) (pa_cons (pe_call FA.ok (by exact hr.mono (by decide)) (by rfl) FA.m FA.k FA.b .nil pass0 (pa_cons (pe_tup (pa_cons pe_str (pa_cons (pv 6) (pa_cons pe_int (pa_cons (pe_tupRg rfl (by rfl) B.tuple (prg_1 (by rfl) B.range pe_int)) pa_nil)))))
          (pa_cons (pe_ix ix_list (pe_call FP.ok (by exact hr.mono (by decide)) (by rfl) FP.m FP.k FP.b .nil pass0 (pa_cons (pv 3) (pa_cons pe_int pa_nil))) pe_int (fun _ _ => rfl)) pa_nil))) pa_nil)))
      (pss_one (ps_ret (pe_and (pe_cmpR (op_eqD hr.units) (pv 16) (pe_op op_rep (pe_lst (pa_cons pe_bl pa_nil)) pe_int) (by rfl)) (pe_one (pe_or (pe_cmpR op_gt (pe_call FD.ok (by exact hr.mono (by decide)) (by rfl) FD.m FD.k FD.b .nil pass0 (pa_cons (pv 0) (pa_cons pe_int pa_nil))) pe_int (nomark _)) (pe_one (pe_callG GM (by exact hr) hG (by rfl) mM kM bM .nil pass0 (pa_cons (pv 0) pa_nil))))))))))))))))))))), ?_⟩
    refine ⟨_, rfl, p, hi, 2, rfl, hp, by omega, by decide, by decide, fun d1 H1 h10 h11 k1 p1 => ⟨_, _, rfl, rfl, _, rfl, p, hi + 1, 11, rfl, p1, by omega, by decide, by decide, fun d2 H2 h20 h21 k2 p2 => ⟨_, _, rfl, rfl, by show 2 ≤ sizeLine; decide, fun tt ntt => ?_⟩⟩⟩
    refine ⟨tt, _, rfl, SqT.of upd_same, rfl, V.int (1 + d1), _, rfl, V.int (2 + d2), _, rfl, rfl, ?_⟩
    have st := same_new (o := .tup [V.int (1 + d1), V.int (2 + d2)]) ntt
    have p3 := p2.same st
    have k03 : Kept p H (upd H2 tt (.tup [V.int (1 + d1), V.int (2 + d2)])) := (k1.trans k2).trans (Same.kept st)
    generalize (upd H2 tt (.tup [V.int (1 + d1), V.int (2 + d2)])) = H3 at *
    obtain ⟨n, hn⟩ : ∃ n : Nat, 1 + d1 = (n : Int) := ⟨(1 + d1).toNat, by omega⟩
    rw [hn]
    have hn1 : 1 ≤ n := by omega
    have hn2 : n ≤ 2 := by omega
    obtain ⟨m, hm⟩ : ∃ m : Int, 2 + d2 = m := ⟨_, rfl⟩
    rw [hm]
    have hm2 : 2 ≤ m := by omega
    have hm12 : m ≤ 12 := by omega
    -- the rule
    refine ⟨_, rfl, _, rfl, _, _, rfl, rfl, ⟨by decide, by decide, by decide⟩, by show 4 ≤ sizeLine; decide, fun l nl => ?_⟩
    have sl := same_new (o := .lst [V.int 1, V.int 3, V.int 9, V.int ((10 : Int) ^ (6 : Int).toNat)]) nl
    have hl : (upd H3 l (.lst [V.int 1, V.int 3, V.int 9, V.int ((10 : Int) ^ (6 : Int).toNat)])) l = some (.lst [V.int 1, V.int 3, V.int 9, V.int ((10 : Int) ^ (6 : Int).toNat)]) := upd_same
    have lp : l ≠ p := fun e => by obtain ⟨_, _, _, h1, _⟩ := p3; rw [← e, nl] at h1; cases h1
    refine ⟨_, rfl, p, hi + 2, 4, rfl, p3.same sl, by omega, by decide, by decide, fun d3 H4 h30 h31 k4 p4 => ?_⟩
    obtain ⟨wd, hwd, hw0, hw1⟩ : ∃ wd : Int, atI [V.int 1, V.int 3, V.int 9, V.int ((10 : Int) ^ (6 : Int).toNat)] d3 = some (V.int wd) ∧ 0 ≤ wd ∧ wd ≤ 10 ^ 6 := by
      have : d3 = 0 ∨ d3 = 1 ∨ d3 = 2 ∨ d3 = 3 := by omega
      rcases this with rfl | rfl | rfl | rfl
      · exact ⟨1, rfl, by decide, by decide⟩
      · exact ⟨3, rfl, by decide, by decide⟩
      · exact ⟨9, rfl, by decide, by decide⟩
      · exact ⟨_, rfl, by decide, by decide⟩
    refine ⟨l, _, _, _, rfl, rfl, SqL.of (k4 _ _ lp hl), hwd, p, hi + 3, n, wd, rfl, p4, by omega, hn1, by omega, hw0, hw1, fun L H5 qs hLB hFits k5 p5 nqs hds => ?_⟩
    have k05 : Kept p H H5 := ((k03.trans (Same.kept sl)).trans k4).trans k5
    -- its papers, its plain form
    refine ⟨_, rfl, _, rfl, .ref qs, L, n, 60, m, rfl, hds, hLB, hn2, hm2, by omega, fun H6 p6 a1 a2 rs EE s6 np6 hp6 hR hE hP => ?_⟩
    refine ⟨p6, _, rfl, SqL.of hp6, rfl, _, _, rfl, _, _, rfl, rfl, ?_⟩
    refine ⟨_, rfl, .ref qs, L, n, 60, rfl, dp_same s6 hds, hLB, fun H7 pl s7 npl hpl => ?_⟩
    have hFl := plain_flat hLB (by omega) hFits
    have C7 : Ctx K L EE rs (.ref qs) pl a1 a2 H7 := ⟨dp_same (s6.trans s7) hds, hpl, hR.same s7, s7 _ _ hE⟩
    have p7 := (p5.same s6).same s7
    have k07 : Kept p H H7 := k05.trans (Same.kept (s6.trans s7))
    have hEl := hP.elen
    have hrl : ∀ r, r ∈ rs → r.length ≤ 900 := fun r hr => by have := (hP.each r hr).1; rw [hLB.h.1] at this; omega
    have hrf := hP.few
    -- accepted
    refine ⟨_, rfl, _, rfl, _, rfl, by show 4 ≤ sizeLine; decide, fun c1 nc1 => ?_⟩
    have sc1 := same_new (o := .tup [V.str "rests", V.ref pl, V.int m, V.ref a2]) nc1
    have C8 := C7.keep (keepT_same sc1)
    refine ⟨_, rfl, c1, .ref pl, a2, .ref a1, plainOf L, m, EE, rs, rfl, SqT.of upd_same, ⟨C8.p, hFl, SqT.of C8.e, by omega, C8.r, by omega, hrl⟩, fun b1 hb1 H9 s9 => ?_⟩
    have eb1 : b1 = true := hb1.2 ((rests_due hLB hm2 hm12 (by omega)).2 (papers_due hP))
    subst eb1
    dsimp only [tNil]
    refine rep_bool ?_
    rw [shown_t]
    refine ⟨rfl, _, rfl, iteF' (by decide +kernel) ?_⟩
    have s79 := sc1.trans s9
    have C9 := C7.keep (keepT_same s79)
    have p9 := p7.same s79
    have k09 := k07.trans (Same.kept s79)
    -- the values
    refine ⟨(13 : Int), rfl, by decide, by decide, fun D nD => ?_⟩
    refine lc_out (walk_range (lo := 0) (n := 13)) (fun i Hc => Grow H9 D (((List.range i).map fun _ => true).map V.bl) Hc) (Grow.start nD) (fun _ _ _ _ => trivial) ?_ ?_
    · rintro i x H0 Hc hi' g ⟨rfl, rfl⟩
      refine ⟨rfl, _, rfl, _, rfl, .ref qs, L, n, 60, 0 + (i : Int), rfl, dp_same g.s C9.s, hLB, by omega, by omega, fun Hd ds sd h01 => .inl ⟨_, rfl, _, rfl, _, _, rfl, rfl, by omega, _, rfl, a2, _, rfl, .inr (SqT.of (sd _ _ (g.s _ _ C9.e))), rfl, flat_ints EE, ?_⟩⟩
      rw [if_neg (by decide), inV_ints, decide_eq_true (at_in hLB hP ds)]
      refine ⟨_, (g.same sd).d, small1000 (by simp; omega), ?_⟩
      have := (g.same sd).step nD (V.bl true)
      rw [List.range_succ, List.map_append, List.map_append]
      exact this
    intro H10 g10
    refine ⟨D, _, rfl, SqL.of g10.d, _, rfl, iteF' (by decide +kernel) ?_⟩
    -- more
    have m0 : 0 ≤ m := by omega
    refine ⟨_, rfl, m, rfl, RgOk.of_le (by decide) (by omega) (by decide) m0, fun mo nmo => ?_⟩
    rw [rgV_range m0]
    have smo := same_new (o := .tup ((rangeI m.toNat).map V.int)) nmo
    have hmo : (upd H10 mo (.tup ((rangeI m.toNat).map V.int))) mo = some (.tup ((rangeI m.toNat).map V.int)) := upd_same
    have C11 := C9.keep (keepT_same (g10.s.trans smo))
    have p11 := p9.same (g10.s.trans smo)
    have k11 := k09.trans (Same.kept (g10.s.trans smo))
    generalize (upd H10 mo (.tup ((rangeI m.toNat).map V.int))) = H11 at *
    have hE0 : 0 < EE.length := by
      have := hP.ends _ hP.told
      cases hEE : EE with
      | nil => rw [hEE] at this; cases this
      | cons a b => simp
    -- less
    refine ⟨_, rfl, _, rfl, _, rfl, _, _, rfl, .inr ⟨_, SqT.of C11.e, rfl⟩, p, hi + 3 + 100, _, rfl, p11.wide (by omega), by omega, by rw [List.length_map]; omega, by rw [List.length_map]; omega, fun d4 H12 h40 h41 k12 p12 => ?_⟩
    rw [List.length_map] at h41
    obtain ⟨dn, rfl⟩ : ∃ dn : Nat, d4 = (dn : Int) := ⟨d4.toNat, by omega⟩
    have hdn : dn < EE.length := by omega
    have C12 := C11.keep (k12.keepT p11)
    have hmo12 := (k12.keepT p11) _ _ hmo rfl
    have k0c := k11.trans k12
    refine ⟨a2, _, _, _, rfl, rfl, SqT.of C12.e, atI_nat (v := V.int EE[dn]) (by rw [List.getElem?_map, List.getElem?_eq_getElem hdn]; rfl), ?_⟩
    refine ⟨_, rfl, a2, rfl, ⟨_, SqT.of C12.e⟩, fun D2 nD2 => ?_⟩
    refine lc_out (walk_tup (xs := EE.map V.int)) (fun i Hc => ∃ ns : List Int, Grow H12 D2 (ns.map V.int) Hc ∧ ns.length ≤ i) ⟨[], Grow.start nD2, Nat.le_refl _⟩ (fun i Hc _ ⟨_, g, _⟩ => SqT.of (g.s _ _ C12.e)) ?_ ?_
    · rintro i x H0 Hc hi' ⟨ns, g, hnl⟩ ⟨rfl, hx'⟩
      rw [List.getElem?_map] at hx'
      cases ez : EE[i]? with
      | none => rw [ez] at hx'; cases hx'
      | some z =>
        rw [ez] at hx'
        cases hx'
        have hil := (List.getElem?_eq_some_iff.1 ez).1
        refine ⟨rfl, _, rfl, _, rfl, rfl, _, rfl, ?_⟩
        by_cases hne : V.int z = V.int EE[dn]
        · exact iteF' (by rw [decide_eq_true hne]; rfl) ⟨ns, g, by omega⟩
        · refine iteT' (by rw [decide_eq_false hne]; rfl) ⟨_, rfl, _, g.d, small1000 (by rw [List.length_map]; omega), ns ++ [z], ?_, by simp; omega⟩
          have := g.step nD2 (V.int z)
          rw [List.map_append]; exact this
    rintro H13 ⟨ns, g13, hnl⟩
    rw [List.length_map] at hnl
    refine ⟨D2, _, rfl, .inl ⟨SqL.of g13.d, fun le nle => ?_⟩⟩
    have sle := same_new (o := .tup (ns.map V.int)) nle
    have hle : (upd H13 le (.tup (ns.map V.int))) le = some (.tup (ns.map V.int)) := upd_same
    have s14 := g13.s.trans sle
    have C14 := C12.keep (keepT_same s14)
    have p14 := p12.same s14
    have hmo14 := s14 _ _ hmo12
    have k14 := k0c.trans (Same.kept s14)
    generalize (upd H13 le (.tup (ns.map V.int))) = H14 at *
    -- the six
    refine ⟨_, rfl, _, rfl, _, rfl, a2, _, rfl, SqT.of C14.e, fun rv nrv => ?_⟩
    have srv := same_new (o := .tup (EE.map V.int).reverse) nrv
    have hrv : (upd H14 rv (.tup (EE.map V.int).reverse)) rv = some (.tup (EE.reverse.map V.int)) := by rw [upd_same, List.map_reverse]
    refine ⟨_, rfl, _, rfl, by show 1 ≤ sizeLine; decide, fun t1 nt1 => ?_⟩
    have st1 := same_new (o := .tup [V.int m]) nt1
    refine cat_tup (st1 _ _ (srv _ _ C14.e)) upd_same (by rw [List.length_map]; show EE.length + 1 ≤ 1000; omega) fun H15 cc1 s15 hcc1 => ?_
    refine ⟨1, rfl, by show 1 ≤ sizeLine; decide, fun t2 nt2 => ⟨_, rfl, ?_⟩⟩
    have st2 := same_new (o := .tup [V.int (-1)]) nt2
    have sE := ((srv.trans st1).trans s15).trans st2
    refine cat_tup upd_same (sE _ _ C14.e) (by rw [List.length_map]; show 1 + EE.length ≤ 1000; omega) fun H16 cc2 s16 hcc2 => ?_
    refine ⟨_, rfl, _, rfl, cat_tup ((sE.trans s16) _ _ C14.e) ((sE.trans s16) _ _ C14.e) (by rw [List.length_map]; omega) fun H17 cc3 s17 hcc3 => ⟨by show 6 ≤ sizeLine; decide, fun ls nls => ?_⟩⟩
    have sls := same_new (o := .lst [V.ref mo, V.ref le, V.ref rv, V.ref cc1, V.ref cc2, V.ref cc3]) nls
    have hls : (upd H17 ls (.lst [V.ref mo, V.ref le, V.ref rv, V.ref cc1, V.ref cc2, V.ref cc3])) ls = some (.lst [V.ref mo, V.ref le, V.ref rv, V.ref cc1, V.ref cc2, V.ref cc3]) := upd_same
    have s18 := ((sE.trans s16).trans s17).trans sls
    have hrest := ((st1.trans s15).trans st2).trans (s16.trans (s17.trans sls))
    have six : ∀ (i : Nat) x, [V.ref mo, V.ref le, V.ref rv, V.ref cc1, V.ref cc2, V.ref cc3][i]? = some x → ∃ (t : Addr) (E' : List Int), x = .ref t ∧ (upd H17 ls (.lst [V.ref mo, V.ref le, V.ref rv, V.ref cc1, V.ref cc2, V.ref cc3])) t = some (.tup (E'.map V.int)) ∧ E'.length ≤ 30 := fun i x hx => by
      match i with
      | 0 => cases hx; exact ⟨mo, _, rfl, s18 _ _ hmo14, by rw [rangeI_len]; omega⟩
      | 1 => cases hx; exact ⟨le, _, rfl, s18 _ _ hle, by omega⟩
      | 2 => cases hx; exact ⟨rv, _, rfl, hrest _ _ hrv, by rw [List.length_reverse]; omega⟩
      | 3 => cases hx; exact ⟨cc1, EE ++ [m], rfl, by rw [List.map_append]; exact (st2.trans (s16.trans (s17.trans sls))) _ _ hcc1, by simp; omega⟩
      | 4 => cases hx; exact ⟨cc2, -1 :: EE, rfl, (s17.trans sls) _ _ hcc2, by simp; omega⟩
      | 5 => cases hx; exact ⟨cc3, EE ++ EE, rfl, by rw [List.map_append]; exact sls _ _ hcc3, by simp; omega⟩
      | i + 6 => simp at hx
    have C18 := C14.keep (keepT_same s18)
    have p18 := p14.same s18
    have k18 := k14.trans (Same.kept s18)
    have hmo18 := s18 _ _ hmo14
    generalize (upd H17 ls (.lst [V.ref mo, V.ref le, V.ref rv, V.ref cc1, V.ref cc2, V.ref cc3])) = H18 at *
    refine ⟨ls, rfl, ⟨_, SqL.of hls⟩, ?_⟩
    refine for_it (walk_list (xs := [V.ref mo, V.ref le, V.ref rv, V.ref cc1, V.ref cc2, V.ref cc3])) (fun i σ Hc => Same H18 Hc ∧ ∃ x12 x13, σ = [some (.ref p), some (.int (n : Int)), some (.int m), some (.ref qs), some (.ref a1), some (.ref a2), some (.ref pl), some (.ref mo), none, some (.int EE[dn]), some (.ref le), none, x12, x13, none, none, none])
      ⟨Same.refl _, none, none, rfl⟩ (fun i σ Hc _ h => SqL.of (h.1 _ _ hls)) ?_ ?_
    · rintro i x σ H0 Hc hi' ⟨s19, x12, x13, rfl⟩ ⟨rfl, hx'⟩
      obtain ⟨t, E', rfl, ht, hlE'⟩ := six i x hx'
      have C19 := C18.keep (keepT_same s19)
      have ht19 := s19 _ _ ht
      refine ⟨_, rfl, _, rfl, _, rfl, _, rfl, .ref qs, L, n, 60, m, t, E', .ref a1, rs, rfl, C19.s, hLB, by omega, by omega, SqT.of ht19, by omega, C19.r, by omega, hrl, fun bd hbd H20 s20 => ?_⟩
      have C20 := C19.keep (keepT_same s20)
      refine ⟨_, rfl, _, rfl, _, rfl, by show 4 ≤ sizeLine; decide, fun c2 nc2 => ?_⟩
      have sc2 := same_new (o := .tup [V.str "rests", V.ref pl, V.int m, V.ref t]) nc2
      have C21 := C20.keep (keepT_same sc2)
      refine ⟨_, rfl, c2, .ref pl, t, .ref a1, plainOf L, m, E', rs, rfl, SqT.of upd_same, ⟨C21.p, hFl, SqT.of (sc2 _ _ (s20 _ _ ht19)), by omega, C21.r, by omega, hrl⟩, fun ba hba H22 s22 => ?_⟩
      have eb : ba = bd := same_bool hba hbd (rests_due hLB hm2 hm12 (by omega))
      subst eb
      dsimp only [tNil]
      refine rep_bool ⟨_, rfl, ?_⟩
      dsimp only [tNil]
      refine rep_bool ⟨rfl, _, rfl, iteF' (by rw [decide_eq_true rfl]; rfl) ⟨s19.trans (s20.trans (sc2.trans s22)), _, _, rfl⟩⟩
    rintro σ Hc ⟨s19, x12, x13, rfl⟩
    have C19 := C18.keep (keepT_same s19)
    have p19 := p18.same s19
    have k19 := k18.trans (Same.kept s19)
    have hmo19 := s19 _ _ hmo18
    -- other rows
    refine ⟨(3 : Int), rfl, by decide, by decide, ?_⟩
    refine for_range (lo := 0) (n := 3) (fun i σ H' => Kept p Hc H' ∧ Purse H' p (hi + 104 + 10 * i) ∧ ∃ x12 x13 x14, σ = [some (.ref p), some (.int (n : Int)), some (.int m), some (.ref qs), some (.ref a1), some (.ref a2), some (.ref pl), some (.ref mo), none, some (.int EE[dn]), some (.ref le), none, x12, x13, x14, none, none])
      ⟨Kept.refl _ _, p19.wide (by omega), x12, x13, none, rfl⟩ ?_ ?_
    · rintro i σ H20 hi3 ⟨k20, p20, y12, y13, y14, rfl⟩
      have C20 := C19.keep (k20.keepT p19)
      obtain ⟨⟨ra, rts, era, r1, r2, r3⟩⟩ := id C20.r
      cases era
      have hr0 : 0 < rs.length := List.length_pos_of_mem hP.told
      refine ⟨_, rfl, _, rfl, _, rfl, p, a1, hi + 104 + 10 * i, n, m, rs, rfl, p20, by omega, C20.r, hr0, hrf, by omega, hn2, fun r hr => ⟨by rw [(hP.each r hr).1, hLB.h.1], (hP.each r hr).2⟩, by omega, by omega, fun rs' H21 q hR' hl' hrl' k21 p21 => ?_⟩
      have C21 := C20.keep (k21.keepT p20)
      refine ⟨_, rfl, _, rfl, _, rfl, _, rfl, .ref qs, L, n, 60, m, a2, EE, .ref q, rs', rfl, C21.s, hLB, by omega, by omega, SqT.of C21.e, by omega, hR', by omega, fun r hr => by have := hrl' r hr; omega, fun bd hbd H22 s22 => ?_⟩
      have C22 := C21.keep (keepT_same s22)
      refine ⟨_, rfl, _, rfl, _, rfl, by show 4 ≤ sizeLine; decide, fun c2 nc2 => ?_⟩
      have sc2 := same_new (o := .tup [V.str "rests", V.ref pl, V.int m, V.ref a2]) nc2
      have C23 := C22.keep (keepT_same sc2)
      refine ⟨_, rfl, c2, .ref pl, a2, .ref q, plainOf L, m, EE, rs', rfl, SqT.of upd_same, ⟨C23.p, hFl, SqT.of C23.e, by omega, hR'.same (s22.trans sc2), by omega, fun r hr => by have := hrl' r hr; omega⟩, fun ba hba H24 s24 => ?_⟩
      have eb : ba = bd := same_bool hba hbd (rests_due hLB hm2 hm12 (by omega))
      subst eb
      dsimp only [tNil]
      refine rep_bool ⟨_, rfl, ?_⟩
      dsimp only [tNil]
      have s2x := s22.trans (sc2.trans s24)
      refine rep_bool ⟨rfl, _, rfl, iteF' (by rw [decide_eq_true rfl]; rfl) ⟨(k20.trans k21).trans (Same.kept s2x), (p21.same s2x).wide (by omega), _, _, _, rfl⟩⟩
    rintro σ H20 ⟨k20, p20, y12, y13, y14, rfl⟩
    have C20 := C19.keep (k20.keepT p19)
    have hmo20 := (k20.keepT p19) _ _ hmo19 rfl
    have kk20 := k19.trans k20
    -- the odd rule
    have hpd := C20.p
    obtain ⟨pl', xs, epl, hxs, hx⟩ := dp_tup hpd
    cases epl
    obtain ⟨v1, v2, v3, v4, rfl, d1', d2', d3', d4'⟩ : ∃ v1 v2 v3 v4, xs = [v1, v2, v3, v4] ∧ Dp K H20 v1 (matD (L.even.map ones)) ∧ Dp K H20 v2 (matD (L.odd.map ones)) ∧ Dp K H20 v3 (rowD L.heads) ∧ Dp K H20 v4 (prowD (ones L.told)) := by
      cases hx with
      | cons h1 r => cases r with
        | cons h2 r => cases r with
          | cons h3 r => cases r with
            | cons h4 r => cases r with
              | nil => exact ⟨_, _, _, _, rfl, h1, h2, h3, h4⟩
    obtain ⟨t4, xs4, rfl, ht4, hx4⟩ := dp_tup d4'
    have hl4 : xs4.length = n := by rw [dpAll_len hx4, List.length_map]; simp [ones, hLB.t.1]
    refine ⟨_, rfl, pl, _, 0, v1, rfl, rfl, hxs, rfl, _, rfl, pl, _, 1, v2, rfl, rfl, hxs, rfl, _, rfl, pl, _, 2, v3, rfl, rfl, hxs, rfl, by show 2 ≤ sizeLine; decide, fun pr npr => ⟨by show 1 ≤ sizeLine; decide, fun t5 nt5 => ?_⟩⟩
    have spr := same_new (o := .tup [V.int 1, V.int 2]) npr
    have st5 := same_new (o := .tup [V.ref pr]) nt5
    have s21 := spr.trans st5
    refine ⟨_, rfl, pl, _, 3, .ref t4, rfl, rfl, same_tup s21 hxs, rfl, _, rfl, t4, _, rfl, same_tup s21 ht4, (fun z => ?_), fun a5 na5 => ?_⟩
    · have h1 := z.1
      rw [show (1 : Int) = ((1 : Nat) : Int) from rfl, HT.sIx_nat, hl4] at h1
      omega
    have ecut : cutV xs4 (some 1) none = xs4.drop 1 := by
      unfold cutV
      rw [show (1 : Int) = ((1 : Nat) : Int) from rfl, HT.sIx_nat, hl4, show min 1 n = 1 by omega]
      show List.take (n - 1) (xs4.drop 1) = xs4.drop 1
      rw [List.take_of_length_le (by rw [List.length_drop]; omega)]
    rw [ecut]
    have sa5 := same_new (o := .tup (xs4.drop 1)) na5
    refine cat_tup (sa5 _ _ upd_same) upd_same (by rw [List.length_drop]; show 1 + (xs4.length - 1) ≤ 1000; omega) fun H21 cc s21b hcc => ⟨by show 4 ≤ sizeLine; decide, fun od nod => ?_⟩
    have sod := same_new (o := .tup [v1, v2, v3, V.ref cc]) nod
    have s22 := (s21.trans (sa5.trans s21b)).trans sod
    have hpr : Dp K (upd H21 od (.tup [v1, v2, v3, V.ref cc])) (.ref pr) (pairD (1, 2)) := pair_dp (SqT.of ((st5.trans (sa5.trans (s21b.trans sod))) _ _ upd_same))
    have hod : Dp K (upd H21 od (.tup [v1, v2, v3, V.ref cc])) (.ref od) (plainD (oddR L)) := .tup (SqT.of upd_same) (.cons (dp_same s22 d1') (.cons (dp_same s22 d2') (.cons (dp_same s22 d3') (.cons (.tup (SqT.of (sod _ _ hcc)) (.cons hpr (by
      have := dpAll_drop (dpAll_same s22 hx4)
      unfold ones at this ⊢
      rw [List.map_drop, List.map_drop]
      exact this))) .nil))))
    generalize (upd H21 od (.tup [v1, v2, v3, V.ref cc])) = H22 at *
    have C22 := C20.keep (keepT_same s22)
    have p22 := p20.same s22
    have hOF := odd_flat hLB (by omega) hn1 hFits
    have hmo22 := s22 _ _ hmo20
    have kk22 := kk20.trans (Same.kept s22)
    -- told
    refine ⟨_, rfl, _, rfl, _, rfl, by show 4 ≤ sizeLine; decide, fun c3 nc3 => ?_⟩
    have sc3 := same_new (o := .tup [V.str "rests", V.ref od, V.int m, V.ref mo]) nc3
    have C23 := C22.keep (keepT_same sc3)
    refine ⟨_, rfl, c3, .ref od, mo, .ref a1, oddR L, m, rangeI m.toNat, rs, rfl, SqT.of upd_same, ⟨dp_same sc3 hod, hOF, SqT.of (sc3 _ _ hmo22), by rw [rangeI_len]; omega, C23.r, by omega, hrl⟩, fun b3 hb3 H24 s24 => ?_⟩
    have eb3 : b3 = false := by
      rw [Bool.eq_false_iff]
      intro z
      have := (hb3.1 z).c.w
      rw [show shr (oddR L).told = 2 from shr_two _] at this
      exact absurd this (by decide)
    subst eb3
    have s2224 := sc3.trans s24
    have C24 := C22.keep (keepT_same s2224)
    refine ⟨_, rfl, by show 1 ≤ sizeLine; decide, fun e0 ne0 => ⟨by show 4 ≤ sizeLine; decide, fun c4 nc4 => ⟨by show 1 ≤ sizeLine; decide, fun z0 nz0 => ⟨_, rfl, ?_⟩⟩⟩⟩
    have se0 := same_new (o := .tup [V.int 0]) ne0
    have sc4 := same_new (o := .tup [V.str "rests", V.ref pl, V.int 1, V.ref e0]) nc4
    have sz0 := same_new (o := .tup [V.int 0]) nz0
    refine rep1 upd_same hn1 hn2 fun H25 zz zr s25 hzz hzl => ⟨by show 1 ≤ sizeLine; decide, fun ce nce => ?_⟩
    have sce := same_new (o := .tup [V.ref zz]) nce
    have sA := ((se0.trans sc4).trans sz0).trans (s25.trans sce)
    have C26 := C24.keep (keepT_same sA)
    refine ⟨c4, .ref pl, e0, .ref ce, plainOf L, 1, [0], [zr], rfl, SqT.of ((sz0.trans (s25.trans sce)) _ _ upd_same), ⟨C26.p, hFl, SqT.of ((sc4.trans (sz0.trans (s25.trans sce))) _ _ upd_same), by decide, ⟨ce, [zz], rfl, upd_same, rfl, fun i t r h1 h2 => ?_⟩, by show 1 ≤ 100000; decide, fun r hr => by rw [List.mem_singleton.1 hr]; omega⟩, fun b4 hb4 H27 s27 => ?_⟩
    · match i with
      | 0 => cases h1; cases h2; exact sce _ _ hzz
      | i + 1 => simp at h1
    have eb4 : b4 = false := by
      rw [Bool.eq_false_iff]
      intro z
      exact absurd (hb4.1 z).m2 (by decide)
    subst eb4
    refine ⟨by show 2 ≤ sizeLine; decide, fun lt nlt => ?_⟩
    have slt := same_new (o := .lst [V.bl false, V.bl false]) nlt
    have hlt : (upd H27 lt (.lst [V.bl false, V.bl false])) lt = some (.lst [V.bl false, V.bl false]) := upd_same
    have sB := (s2224.trans (sA.trans s27)).trans slt
    have C28 := C22.keep (keepT_same sB)
    have p28 := p22.same sB
    have kk28 := kk22.trans (Same.kept sB)
    generalize (upd H27 lt (.lst [V.bl false, V.bl false])) = H28 at *
    -- modulus 13
    refine ⟨_, rfl, .inl ⟨rfl, _, SqL.of hlt⟩, _, rfl, (13 : Int), rfl, RgOk.of_le (by decide) (by decide) (by decide) (by decide), fun r13 nr13 => ⟨by show 4 ≤ sizeLine; decide, fun c5 nc5 => ?_⟩⟩
    rw [rgV_range (by decide)] at nc5 ⊢
    have sr13 := same_new (o := .tup ((rangeI (13 : Int).toNat).map V.int)) nr13
    have sc5 := same_new (o := .tup [V.str "rests", V.ref pl, V.int 13, V.ref r13]) nc5
    have sC := sr13.trans sc5
    have C30 := C28.keep (keepT_same sC)
    refine ⟨_, rfl, .ref qs, L, n, 60, 13, rfl, C30.s, hLB, hn2, by decide, by decide, fun H31 p31 b1 b2 rs2 E2 s31 np31 hp31 hR2 hE2 hP2 => ⟨p31, _, 0, _, rfl, rfl, SqL.of hp31, rfl, ?_⟩⟩
    have hrl2 : ∀ r, r ∈ rs2 → r.length ≤ 900 := fun r hr => by have := (hP2.each r hr).1; rw [hLB.h.1] at this; omega
    have hrf2 := hP2.few
    have C31 := C30.keep (keepT_same s31)
    refine ⟨c5, .ref pl, r13, .ref b1, plainOf L, 13, rangeI (13 : Int).toNat, rs2, rfl, SqT.of (s31 _ _ upd_same), ⟨C31.p, hFl, SqT.of (s31 _ _ (sc5 _ _ upd_same)), by rw [rangeI_len]; decide, hR2, by omega, hrl2⟩, fun b5 hb5 H32 s32 => ?_⟩
    have eb5 : b5 = false := by
      rw [Bool.eq_false_iff]
      intro z
      exact absurd (hb5.1 z).m12 (by decide)
    subst eb5
    have sD := sC.trans (s31.trans s32)
    have hlt32 := sD _ _ hlt
    have ltp : lt ≠ p := (p28.ne hlt (fun a b c e => by cases e))
    refine ⟨lt, _, _, rfl, rfl, hlt32, by show 2 < sizeLine; decide, ?_⟩
    have p33 := (p28.same sD).upd (o := .lst ([V.bl false, V.bl false] ++ [V.bl false])) ltp
    have hlt33 : (upd H32 lt (.lst ([V.bl false, V.bl false] ++ [V.bl false]))) lt = some (.lst [V.bl false, V.bl false, V.bl false]) := upd_same
    have nlt0 : ∀ b o, H b = some o → b ≠ p → b ≠ lt := fun b o hb hbp => by
      have h1 := (kk22 b o hbp hb)
      have h2 := (s2224.trans (sA.trans s27)) _ _ h1
      exact ne_of_none h2 nlt
    have kk33 : Kept p H (upd H32 lt (.lst ([V.bl false, V.bl false] ++ [V.bl false]))) := fun b o hbp hb => by
      rw [upd_ne (nlt0 b o hb hbp)]
      exact sD _ _ (kk28 b o hbp hb)
    generalize (upd H32 lt (.lst ([V.bl false, V.bl false] ++ [V.bl false]))) = H33 at *
    -- the answer
    refine ⟨_, rfl, by show 1 ≤ sizeLine; decide, fun l3 nl3 => ⟨l3, 3, _, rfl, rfl, upd_same, by decide, by decide, by decide, fun l6 nl6 => ?_⟩⟩
    have sl3 := same_new (o := .lst [V.bl false]) nl3
    have sl6 := same_new (o := .lst (List.replicate (3 : Int).toNat [V.bl false]).flatten) nl6
    have dpF : ∀ (Hx : Hp) (a : Addr), Hx a = some (.lst [V.bl false, V.bl false, V.bl false]) → Dp K Hx (.ref a) (.list [.bool false, .bool false, .bool false]) := fun Hx a h => .lst (SqL.of h) (.cons (.bl _) (.cons (.bl _) (.cons (.bl _) .nil)))
    refine ⟨_, _, dpF _ lt ((sl3.trans sl6) _ _ hlt33), dpF _ l6 upd_same, by decide +kernel, by decide +kernel, _, rfl, iteT' (by decide +kernel) ?_⟩
    have p35 := p33.same (sl3.trans sl6)
    have kk35 := kk33.trans (Same.kept (sl3.trans sl6))
    refine ⟨_, rfl, p, hi + 104 + 10 * 3, 6, rfl, p35, by omega, by decide, by decide, fun d H36 hd0 hd1 k36 p36 => ⟨_, _, rfl, rfl, _, rfl, ?_⟩⟩
    by_cases hg : 0 < d
    · exact iteT' (decide_eq_true hg) (k _ (kk35.trans k36))
    · exact iteF' (decide_eq_false hg) ⟨_, rfl, p, _, rfl, p36, by omega, fun H' k' => k H' ((kk35.trans k36).trans k')⟩
end
end L2.EH
end S_Q29
section S_Q30
set_option exponentiation.threshold 2000
set_option maxRecDepth 100000
set_option maxHeartbeats 4000000
namespace L2.EH
open PySem PySem.Spec PyProof.Rows StX
theorem cut_intsC (ns : List Int) (lo hi : Option Int) : ∃ ms : List Int, cutV (ns.map V.int) lo hi = ms.map V.int := by
  obtain ⟨ms, h, _⟩ := cut_ints ns lo hi
  exact ⟨ms, h⟩
section
variable {P : Program} {w : World} {K : PySem.W.Frag} {mg : Str → Option Value} {base : Heap}
theorem ok_cell {f : Addr} {fd : FuncData} (F : Fun K "_law_cell" "_law_cell" sCell f fd) (B : BN mg) : FnOk P w K mg base CX0 1 f fd ["_law_cells", "_law_spot"] (spCell K) := by
  refine F.ok scCell (fun vs H Q E h => ?_) (fun cdv A outer s H vs Q E hr h => ?_)
  · obtain ⟨a, ns, k, rfl, _⟩ := h
    rfl
  · obtain ⟨a, ns, k, rfl, ha, hl, hk, q⟩ := h
    have nd := scCell.nd
    refine ⟨_, pss_cons (ps_if (pt_cmpR op_lt (pv 1) (pe_callB call_len (by rfl) B.len boot_len (pa_cons (pv 0) pa_nil)) (nomark _)) (pss_one (ps_ret (pe_ix ix_list (pv 0) (pv 1) (fun _ _ => rfl)))) pss_nil)
      (pss_cons (ps_set (i := 2) nd rfl (Or.inl rfl) (pe_op op_add (pe_op op_mul (pe_op op_mul pe_int (pe_op op_add (pv 1) pe_int)) (pe_op op_add (pv 1) pe_int)) pe_int))
      (pss_cons (ps_for PassesOwn.never rfl (pi_list (pe_slice sl_list (pv 0) po_none (po_some pe_int))) (pg_name (i := 3) nd rfl (Or.inl rfl))
        (pss_one (ps_set (i := 2) nd rfl (Or.inl rfl) (pe_op op_mod (pe_callTy call_int1 (by rfl) B.int (by decide +kernel) (pa_cons (pe_op op_add (pe_op op_add (pe_op op_mul (pv 2) pe_int) (pe_op op_mod (pe_callTy call_int1 (by rfl) B.int (by decide +kernel) (pa_cons (pv 3) pa_nil)) pe_int)) pe_int) pa_nil)) pe_int))))
      (pss_one (ps_ret (pv 2))))), ?_⟩
    refine ⟨_, rfl, _, rfl, _, _, rfl, .inl ⟨_, ha, rfl⟩, _, _, rfl, rfl, _, rfl, ite2 (fun h => ?_) fun h => ?_⟩
    · have hlt : k < ns.length := by
        have z := of_decide_eq_true h
        rw [List.length_map] at z
        omega
      have e1 : (ns.map V.int)[k]? = some (V.int ns[k]) := by rw [List.getElem?_map, List.getElem?_eq_getElem hlt]; rfl
      exact ⟨_, rfl, _, rfl, a, _, _, _, rfl, rfl, ha, atI_nat e1, q _ H (Same.refl H)⟩
    · refine ⟨_, rfl, _, _, rfl, rfl, _, _, rfl, rfl, .inl ⟨by decide, by decide⟩, _, rfl, _, _, rfl, rfl, _, _, rfl, rfl, .inr ⟨by omega, by omega⟩, _, _, rfl, rfl, ?_⟩
      have hz : 0 ≤ 40503 * ((k : Int) + 3) * ((k : Int) + 11) + 617 ∧ 40503 * ((k : Int) + 3) * ((k : Int) + 11) + 617 < 2 ^ 40 := by
        have h1 : 0 ≤ 40503 * ((k : Int) + 3) := by omega
        have h2 : 40503 * ((k : Int) + 3) ≤ 40503 * 103 := by omega
        have h3 : 40503 * ((k : Int) + 3) * ((k : Int) + 11) ≤ 40503 * 103 * 111 := Int.mul_le_mul h2 (by omega) (by omega) (by decide)
        have h4 : 0 ≤ 40503 * ((k : Int) + 3) * ((k : Int) + 11) := Int.mul_nonneg h1 (by omega)
        have e : (2 : Int) ^ 40 = 1099511627776 := by decide
        omega
      refine ⟨_, rfl, _, rfl, a, _, rfl, ha, fun p np => ?_⟩
      obtain ⟨ms, hms⟩ := cut_intsC ns none (some 4)
      refine ⟨p, rfl, ⟨_, SqL.of upd_same⟩, for_list (K := K) (a := p) (xs := cutV (ns.map V.int) none (some 4)) (fun i σ H' => H' = upd H p (.lst (cutV (ns.map V.int) none (some 4))) ∧ ∃ (z : Int) (x : Option V), 0 ≤ z ∧ z < 2 ^ 40 ∧ σ = [some (.ref a), some (.int (k : Int)), some (.int z), x]) ?_ ?_ ?_ ?_⟩
      · exact ⟨rfl, _, none, hz.1, hz.2, rfl⟩
      · rintro i σ H' _ ⟨rfl, _⟩
        exact SqL.of upd_same
      · rintro i x σ H' hx ⟨rfl, z, y, hz, hz2, rfl⟩
        rw [hms, List.getElem?_map] at hx
        cases e : ms[i]? with
        | none => rw [e] at hx; cases hx
        | some n =>
          rw [e] at hx
          cases hx
          have hb : (-(2 ^ 64 : Int)) < z ∧ z < 2 ^ 64 := by
            have e : (2 : Int) ^ 40 = 1099511627776 := by decide
            constructor <;> omega
          have hm : ∀ y : Int, 0 ≤ y % 2147483549 ∧ y % 2147483549 < 2 ^ 40 := fun y => ⟨Int.emod_nonneg _ (by decide), Int.lt_trans (Int.emod_lt_of_pos y (by decide : (0 : Int) < 2147483549)) (by decide)⟩
          refine ⟨_, rfl, _, _, rfl, rfl, .inl hb, _, rfl, .inl ⟨_, rfl, _, _, rfl, rfl, (by show (0 : Int) < 2147483549; decide), _, _, rfl, rfl, _, _, rfl, rfl, .inl ⟨_, rfl, _, _, rfl, rfl, (by show (0 : Int) < 2147483549; decide), rfl, _, _, (hm _).1, (hm _).2, rfl⟩⟩⟩
      · rintro σ H' ⟨rfl, z, y, hz, hz2, rfl⟩
        exact ⟨_, rfl, q z _ (fun b o e => by rw [upd_ne (ne_of_none e np)]; exact e)⟩
end
/-! ### the law -/
def nilL : LR := ⟨[], [], [], []⟩
theorem nil_ok : LRB nilL 0 1 := ⟨by decide, ⟨by decide, by decide⟩, rfl, rfl, (fun r h => by cases h), (fun r h => by cases h), ⟨rfl, fun z h => by cases h⟩, ⟨rfl, fun z h => by cases h⟩⟩
theorem nil_flat : Flat (plainOf nilL) := plain_flat nil_ok (by decide) (fun i r z h => by simp [nilL] at h)
theorem nil_due {E : List Int} (h1 : ∀ (j : Nat) x y, E[j]? = some x → E[j + 1]? = some y → x < y) (h2 : ∀ z, z ∈ E → 0 ≤ z ∧ z < 5) (h3 : (0 : Int) ∈ E) : DueOk nilL 5 E [[]] :=
  ⟨h1, h2, (fun j x y e1 e2 => by simp at e2), (fun r hr => by rw [List.mem_singleton.1 hr]; rfl), (fun r hr => by rw [List.mem_singleton.1 hr]; exact fun z hz => by cases hz), (fun r hr => by rw [List.mem_singleton.1 hr]; exact h3), (fun r hr => by rw [List.mem_singleton.1 hr]; decide), (fun r hr => by rw [List.mem_singleton.1 hr]; decide), by decide⟩
theorem shown_law : PyData.shown (.list [.bool true, .bool false, .bool true, .bool false]) = ("[True, False, True, False]" : Str) := by decide +kernel
def spLaw (K : PySem.W.Frag) : Sp := fun vs H Q _ => ∃ (a : Addr) (ns : List Int), vs = [.ref a] ∧ SqL K H a (ns.map V.int) ∧ ns.length ≤ 63 ∧ ∀ H', Q (.bl true) H'
theorem scLaw : FnScope ["_law_cells", "_law_nothing", "_law_told", "_law_spot"] ["_law_cells"] (defScope sLaw) := ⟨rfl, rfl, rfl, by decide +kernel, rfl, by decide +kernel, by decide +kernel⟩
section
variable {P : Program} {w : World} {K : PySem.W.Frag} {mg : Str → Option Value} {base : Heap}
theorem ok_law {f fA fC fS fR : Addr} {fd fdA fdC fdS fdR : FuncData} (F : Fun K "law" "law" sLaw f fd) (B : BN mg) (FA : Fn' P w K mg base 7 "accepts" fA fdA ["claim", "certificate"] (spAccepts K)) (Ce : Fn' P w K mg base 1 "_law_cell" fC fdC ["_law_cells", "_law_spot"] (spCell K))
    (So : Fn' P w K mg base 1 "_law_source" fS fdS ["_law_cell_here"] spSource) (GR : FnG P w K mg base CX0 9 fR fdR ["_law_source_here"] spRight) (mR : mg "_law_right" = some (.ref fR)) (kR : PySem.W.keepIn K (.ref fR) = true) (bR : Binds K fdR ["_law_source_here"] []) :
    FnG P w K mg base CX0 10 f fd ["_law_cells"] (spLaw K) := by
  refine Fun.okG F scLaw (fun vs H Q E h => ?_) (fun cdv A outer s H vs Q E hr hG h => ?_)
  · obtain ⟨a, ns, rfl, _⟩ := h
    rfl
  · obtain ⟨a, ns, rfl, ha, hl, k⟩ := h
    have nd := scLaw.nd
    refine ⟨_, pss_cons (ps_set (i := 1) nd rfl (Or.inl rfl) (pe_tup (pa_cons (pe_tup pa_nil) (pa_cons (pe_tup pa_nil) (pa_cons (pe_tup pa_nil) (pa_cons (pe_tup pa_nil) pa_nil))))))
      (pss_cons (ps_set (i := 2) nd rfl (Or.inl rfl) (pe_lst (pa_cons (pe_call FA.ok (by exact hr.mono (by decide)) (by rfl) FA.m FA.k FA.b .nil pass0 (pa_cons (pe_tup (pa_cons pe_str (pa_cons (pv 1) (pa_cons pe_int (pa_cons (pe_tup (pa_cons pe_int pa_nil)) pa_nil))))) (pa_cons (pe_tup (pa_cons (pe_tup pa_nil) pa_nil)) pa_nil)))
        (pa_cons (pe_call FA.ok (by exact hr.mono (by decide)) (by rfl) FA.m FA.k FA.b .nil pass0 (pa_cons (pe_tup (pa_cons pe_str (pa_cons (pv 1) (pa_cons pe_int (pa_cons (pe_tup (pa_cons pe_int pa_nil)) pa_nil))))) (pa_cons (pe_tup (pa_cons (pe_tup pa_nil) pa_nil)) pa_nil))) pa_nil))))
      (pss_cons (ps_expr (pe_bm PySem.F.plainAttrs_list PySem.F.slot_list_append PySem.F.type_list_append mt_append (pv 2) (pa_cons (pe_call FA.ok (by exact hr.mono (by decide)) (by rfl) FA.m FA.k FA.b .nil pass0 (pa_cons (pe_tup (pa_cons pe_str (pa_cons (pv 1) (pa_cons pe_int (pa_cons (pe_tup (pa_cons pe_int (pa_cons pe_int pa_nil))) pa_nil))))) (pa_cons (pe_tup (pa_cons (pe_tup pa_nil) pa_nil)) pa_nil))) pa_nil)))
      (pss_cons (ps_expr (pe_bm PySem.F.plainAttrs_list PySem.F.slot_list_append PySem.F.type_list_append mt_append (pv 2) (pa_cons (pe_call FA.ok (by exact hr.mono (by decide)) (by rfl) FA.m FA.k FA.b .nil pass0 (pa_cons (pe_tup (pa_cons pe_str (pa_cons (pv 1) (pa_cons pe_int (pa_cons (pe_tup (pa_cons pe_int pa_nil)) pa_nil))))) (pa_cons (pe_tup pa_nil) pa_nil))) pa_nil)))
      (pss_cons (ps_if (pt_cmpR op_ne (pe_callB (call_rep hG hr.units) (by rfl) B.repr (by decide +kernel) (pa_cons (pv 2) pa_nil)) pe_str (by rfl)) (pss_one (ps_ret pe_bl)) pss_nil)
      (pss_one (ps_ret (pe_callB (cr_all rfl) (by rfl) B.all (by decide +kernel) (pa_cons (pe_lc (own := [("_law_spot", 3)]) (g := gName 3) (tt := tYes) rfl nd (pi_range1 (by rfl) B.range (pa_cons (pe_callB (call_max2 rfl) (by rfl) B.max (by decide +kernel) (pa_cons pe_int (pa_cons (pe_callB (call_min2 rfl) (by rfl) B.min (by decide +kernel) (pa_cons (pe_callB call_len (by rfl) B.len boot_len (pa_cons (pv 0) pa_nil)) (pa_cons pe_int pa_nil))) pa_nil))) pa_nil)) (blkOk_by (own := [("_law_spot", 3)]) (N := ["_law_cells", "_law_nothing", "_law_told", "_law_spot"]) (sc := defScope sLaw) (by decide +kernel))
        (fun _ _ _ _ _ => pg_name (i := 3) nd rfl (Or.inl rfl) (Or.inr rfl)) (fun _ _ _ _ _ => pts_nil)
        (fun _ _ _ _ _ => pe_callG GR (by exact hr) hG (by rfl) mR kR bR .nil pass0 (pa_cons (pe_call So.ok (by exact hr.mono (by decide)) (by rfl) So.m So.k So.b .nil pass0 (pa_cons (pe_call Ce.ok (by exact hr.mono (by decide)) (by rfl) Ce.m Ce.k Ce.b .nil pass0 (pa_cons (pv 0) (pa_cons (pv 3) pa_nil))) pa_nil)) pa_nil))) pa_nil)))))))), ?_⟩
    -- the rule of nothing
    refine ⟨by show 0 ≤ sizeLine; decide, fun n1 nn1 => ⟨by show 0 ≤ sizeLine; decide, fun n2 nn2 => ⟨by show 0 ≤ sizeLine; decide, fun n3 nn3 => ⟨by show 0 ≤ sizeLine; decide, fun n4 nn4 => ⟨by show 4 ≤ sizeLine; decide, fun no nno => ?_⟩⟩⟩⟩⟩
    have sn1 := same_new (o := .tup []) nn1
    have sn2 := same_new (o := .tup []) nn2
    have sn3 := same_new (o := .tup []) nn3
    have sn4 := same_new (o := .tup []) nn4
    have sno := same_new (o := .tup [V.ref n1, V.ref n2, V.ref n3, V.ref n4]) nno
    have d0 : Dp K (upd (upd (upd (upd (upd H n1 (.tup [])) n2 (.tup [])) n3 (.tup [])) n4 (.tup [])) no (.tup [V.ref n1, V.ref n2, V.ref n3, V.ref n4])) (.ref no) (plainD (plainOf nilL)) :=
      .tup (SqT.of upd_same) (.cons (.tup (SqT.of ((sn2.trans (sn3.trans (sn4.trans sno))) _ _ upd_same)) .nil) (.cons (.tup (SqT.of ((sn3.trans (sn4.trans sno)) _ _ upd_same)) .nil) (.cons (.tup (SqT.of ((sn4.trans sno) _ _ upd_same)) .nil) (.cons (.tup (SqT.of (sno _ _ upd_same)) .nil) .nil))))
    have s0 : Same H _ := sn1.trans (sn2.trans (sn3.trans (sn4.trans sno)))
    generalize (upd (upd (upd (upd (upd H n1 (.tup [])) n2 (.tup [])) n3 (.tup [])) n4 (.tup [])) no (.tup [V.ref n1, V.ref n2, V.ref n3, V.ref n4])) = H0 at *
    refine ⟨_, rfl, by show 1 ≤ sizeLine; decide, fun e1 ne1 => ⟨by show 4 ≤ sizeLine; decide, fun c1 nc1 => ⟨by show 0 ≤ sizeLine; decide, fun r1 nr1 => ⟨by show 1 ≤ sizeLine; decide, fun z1 nz1 => ?_⟩⟩⟩⟩
    have se1 := same_new (o := .tup [V.int 0]) ne1
    have sc1 := same_new (o := .tup [V.str "rests", V.ref no, V.int 5, V.ref e1]) nc1
    have sr1 := same_new (o := .tup []) nr1
    have sz1 := same_new (o := .tup [V.ref r1]) nz1
    have sq1 := se1.trans (sc1.trans (sr1.trans sz1))
    refine ⟨c1, .ref no, e1, .ref z1, plainOf nilL, 5, [0], [[]], rfl, SqT.of ((sr1.trans sz1) _ _ upd_same), ⟨dp_same sq1 d0, nil_flat, SqT.of ((sc1.trans (sr1.trans sz1)) _ _ upd_same), by decide, ⟨z1, [r1], rfl, upd_same, rfl, fun i t r h1 h2 => ?_⟩, by show 1 ≤ 100000; decide, fun r hr => by rw [List.mem_singleton.1 hr]; show 0 ≤ 900; decide⟩, fun b1 hb1 H1 s1' => ?_⟩
    · match i with
      | 0 => cases h1; cases h2; exact sz1 _ _ upd_same
      | i + 1 => simp at h1
    have eb1 : b1 = true := hb1.2 ((rests_due nil_ok (by decide) (by decide) (by decide)).2 (nil_due (fun j x y e1 e2 => by simp at e2) (fun z hz => by simp at hz; omega) (by simp)))
    subst eb1
    have s1 := sq1.trans s1'
    have d1 := dp_same s1 d0
    refine ⟨_, rfl, by show 1 ≤ sizeLine; decide, fun e2 ne2 => ⟨by show 4 ≤ sizeLine; decide, fun c2 nc2 => ⟨by show 0 ≤ sizeLine; decide, fun r2 nr2 => ⟨by show 1 ≤ sizeLine; decide, fun z2 nz2 => ?_⟩⟩⟩⟩
    have se2 := same_new (o := .tup [V.int 1]) ne2
    have sc2 := same_new (o := .tup [V.str "rests", V.ref no, V.int 5, V.ref e2]) nc2
    have sr2 := same_new (o := .tup []) nr2
    have sz2 := same_new (o := .tup [V.ref r2]) nz2
    have sq2 := se2.trans (sc2.trans (sr2.trans sz2))
    refine ⟨c2, .ref no, e2, .ref z2, plainOf nilL, 5, [1], [[]], rfl, SqT.of ((sr2.trans sz2) _ _ upd_same), ⟨dp_same sq2 d1, nil_flat, SqT.of ((sc2.trans (sr2.trans sz2)) _ _ upd_same), by decide, ⟨z2, [r2], rfl, upd_same, rfl, fun i t r h1 h2 => ?_⟩, by show 1 ≤ 100000; decide, fun r hr => by rw [List.mem_singleton.1 hr]; show 0 ≤ 900; decide⟩, fun b2 hb2 H2 s2' => ?_⟩
    · match i with
      | 0 => cases h1; cases h2; exact sz2 _ _ upd_same
      | i + 1 => simp at h1
    have eb2 : b2 = false := by
      rw [Bool.eq_false_iff]
      intro z
      have := ((rests_due nil_ok (by decide) (by decide) (by decide)).1 (hb2.1 z)).ends [] (List.mem_singleton.2 rfl)
      exact absurd this (by decide)
    subst eb2
    have s2 := sq2.trans s2'
    have d2 := dp_same s2 d1
    refine ⟨by show 2 ≤ sizeLine; decide, fun lt nlt => ?_⟩
    have slt := same_new (o := .lst [V.bl true, V.bl false]) nlt
    have hlt : (upd H2 lt (.lst [V.bl true, V.bl false])) lt = some (.lst [V.bl true, V.bl false]) := upd_same
    have d2l := dp_same slt d2
    have s02 := s0.trans (s1.trans s2)
    have nlt0 : H lt = none := s02.free nlt
    have s02l := s02.trans slt
    generalize (upd H2 lt (.lst [V.bl true, V.bl false])) = H2l at *
    refine ⟨_, rfl, .inl ⟨rfl, _, SqL.of hlt⟩, _, rfl, by show 2 ≤ sizeLine; decide, fun e3 ne3 => ⟨by show 4 ≤ sizeLine; decide, fun c3 nc3 => ⟨by show 0 ≤ sizeLine; decide, fun r3 nr3 => ⟨by show 1 ≤ sizeLine; decide, fun z3 nz3 => ?_⟩⟩⟩⟩
    have se3 := same_new (o := .tup [V.int 0, V.int 3]) ne3
    have sc3 := same_new (o := .tup [V.str "rests", V.ref no, V.int 5, V.ref e3]) nc3
    have sr3 := same_new (o := .tup []) nr3
    have sz3 := same_new (o := .tup [V.ref r3]) nz3
    have sq3 := se3.trans (sc3.trans (sr3.trans sz3))
    refine ⟨c3, .ref no, e3, .ref z3, plainOf nilL, 5, [0, 3], [[]], rfl, SqT.of ((sr3.trans sz3) _ _ upd_same), ⟨dp_same sq3 d2l, nil_flat, SqT.of ((sc3.trans (sr3.trans sz3)) _ _ upd_same), by decide, ⟨z3, [r3], rfl, upd_same, rfl, fun i t r h1 h2 => ?_⟩, by show 1 ≤ 100000; decide, fun r hr => by rw [List.mem_singleton.1 hr]; show 0 ≤ 900; decide⟩, fun b3 hb3 H3 s3' => ?_⟩
    · match i with
      | 0 => cases h1; cases h2; exact sz3 _ _ upd_same
      | i + 1 => simp at h1
    have eb3 : b3 = true := hb3.2 ((rests_due nil_ok (by decide) (by decide) (by decide)).2 (nil_due (fun j x y e1 e2 => by match j with | 0 => cases e1; cases e2; decide | j + 1 => simp at e2) (fun z hz => by simp at hz; omega) (by simp)))
    subst eb3
    have s3 := sq3.trans s3'
    have d3 := dp_same s3 d2l
    have hlt3 := s3 _ _ hlt
    refine ⟨lt, _, _, rfl, rfl, hlt3, by show 2 < sizeLine; decide, ?_⟩
    have hlt4 : (upd H3 lt (.lst ([V.bl true, V.bl false] ++ [V.bl true]))) lt = some (.lst [V.bl true, V.bl false, V.bl true]) := upd_same
    have d3l : Dp K (upd H3 lt (.lst ([V.bl true, V.bl false] ++ [V.bl true]))) (.ref no) (plainD (plainOf nilL)) := dp_keep (keepT_upd hlt3 rfl) (plainD_tup _) d3
    have s03 : Same H (upd H3 lt (.lst ([V.bl true, V.bl false] ++ [V.bl true]))) := fun b o hb => by rw [upd_ne (ne_of_none hb nlt0)]; exact s3 _ _ (s02l _ _ hb)
    generalize (upd H3 lt (.lst ([V.bl true, V.bl false] ++ [V.bl true]))) = H3l at *
    refine ⟨_, rfl, .inl ⟨rfl, _, SqL.of hlt4⟩, _, rfl, by show 1 ≤ sizeLine; decide, fun e4 ne4 => ⟨by show 4 ≤ sizeLine; decide, fun c4 nc4 => ⟨by show 0 ≤ sizeLine; decide, fun z4 nz4 => ?_⟩⟩⟩
    have se4 := same_new (o := .tup [V.int 0]) ne4
    have sc4 := same_new (o := .tup [V.str "rests", V.ref no, V.int 5, V.ref e4]) nc4
    have sz4 := same_new (o := .tup []) nz4
    have sq4 := se4.trans (sc4.trans sz4)
    refine ⟨c4, .ref no, e4, .ref z4, plainOf nilL, 5, [0], [], rfl, SqT.of (sz4 _ _ upd_same), ⟨dp_same sq4 d3l, nil_flat, SqT.of ((sc4.trans sz4) _ _ upd_same), by decide, ⟨z4, [], rfl, upd_same, rfl, fun i t r h1 h2 => by simp at h1⟩, by show 0 ≤ 100000; decide, fun r hr => by cases hr⟩, fun b4 hb4 H4 s4' => ?_⟩
    have eb4 : b4 = false := by
      rw [Bool.eq_false_iff]
      intro z
      exact absurd (hb4.1 z).c.t (by simp)
    subst eb4
    have s4 := sq4.trans s4'
    have hlt5 := s4 _ _ hlt4
    refine ⟨lt, _, _, rfl, rfl, hlt5, by show 3 < sizeLine; decide, ?_⟩
    have hlt6 : (upd H4 lt (.lst ([V.bl true, V.bl false, V.bl true] ++ [V.bl false]))) lt = some (.lst [V.bl true, V.bl false, V.bl true, V.bl false]) := upd_same
    have s04 : Same H (upd H4 lt (.lst ([V.bl true, V.bl false, V.bl true] ++ [V.bl false]))) := fun b o hb => by rw [upd_ne (ne_of_none hb nlt0)]; exact s4 _ _ (s03 _ _ hb)
    generalize (upd H4 lt (.lst ([V.bl true, V.bl false, V.bl true] ++ [V.bl false]))) = H5 at *
    refine ⟨_, rfl, _, .list [.bool true, .bool false, .bool true, .bool false], rfl, .lst (SqL.of hlt6) (.cons (.bl _) (.cons (.bl _) (.cons (.bl _) (.cons (.bl _) .nil)))), by decide +kernel, by decide +kernel, by decide +kernel, by rw [shown_law]; decide +kernel, ?_⟩
    rw [shown_law]
    refine ⟨rfl, _, rfl, iteF' (by decide +kernel) ?_⟩
    have few : ∀ z : Int, 0 ≤ z → z ≤ 63 → ∃ n : Nat, n ≤ 5 ∧ (if (if (5 : Int) < z then (5 : Int) else z) > 2 then (if (5 : Int) < z then (5 : Int) else z) else 2) = (n : Int) := fun z hz hz2 => by
      by_cases h4 : (5 : Int) < z
      · rw [if_pos h4]; exact ⟨5, by omega, by rw [if_pos (by omega)]; rfl⟩
      · rw [if_neg h4]
        by_cases h2 : z > 2
        · rw [if_pos h2]; exact ⟨z.toNat, by omega, by omega⟩
        · rw [if_neg h2]; exact ⟨2, by omega, rfl⟩
    obtain ⟨n, hn4, hn⟩ := few (((ns.map V.int).length : Nat) : Int) (by omega) (by rw [List.length_map]; omega)
    have ha5 : SqL K H5 a (ns.map V.int) := s04.seq ha
    refine ⟨_, rfl, _, _, rfl, .inl ⟨_, ha5, rfl⟩, _, _, rfl, _, _, rfl, ?_⟩
    show ∃ j : Int, [V.int (if (if (5 : Int) < (((ns.map V.int).length : Nat) : Int) then (5 : Int) else (((ns.map V.int).length : Nat) : Int)) > 2 then (if (5 : Int) < (((ns.map V.int).length : Nat) : Int) then (5 : Int) else (((ns.map V.int).length : Nat) : Int)) else 2)] = [.int j] ∧ _
    rw [hn]
    refine ⟨(n : Int), rfl, by omega, by omega, fun D hD => ?_⟩
    have en : ((n : Int)).toNat = n := by omega
    rw [en]
    refine lc_out (walk_range (lo := 0) (n := n)) (fun i Hc => Grow H5 D (((List.range i).map fun _ => true).map V.bl) Hc) (Grow.start hD) (fun _ _ _ _ => trivial) ?_ ?_
    · rintro i x H0 Hc hi g ⟨rfl, rfl⟩
      refine ⟨rfl, _, rfl, _, rfl, a, ns, i, by show [V.ref a, V.int (0 + (i : Int))] = _; rw [Int.zero_add], g.s.seq ha5, hl, by omega, fun z H6 s6 => ⟨z, rfl, fun p m f np hm hm2 hf => ?_⟩⟩
      have sp := same_new (o := .lst [V.int m, V.int f, V.int 0]) np
      have hD6 := sp _ _ (s6 _ _ g.d)
      have hDp : D ≠ p := ne_of_none (s6 _ _ g.d) np
      refine ⟨p, 0, rfl, ⟨m, f, 0, upd_same, hm, hm2, hf, by decide, by decide⟩, by decide, fun H7 k7 => ?_⟩
      have nH5 : H5 p = none := g.s.free (s6.free np)
      have g7 : Grow H5 D (((List.range i).map fun _ => true).map V.bl) H7 := ⟨fun b o hb => k7 b o (ne_of_none hb nH5) (sp _ _ (s6 _ _ (g.s _ _ hb))), k7 _ _ hDp hD6⟩
      refine ⟨_, g7.d, small1000 (by simp; omega), ?_⟩
      have := g7.step hD (V.bl true)
      rw [List.range_succ, List.map_append, List.map_append]
      exact this
    · intro Hc g
      refine ⟨D, _, rfl, SqL.of g.d, ?_⟩
      have e : (((List.range n).map fun _ => true).all id) = true := by rw [List.all_map]; exact List.all_eq_true.mpr fun _ _ => rfl
      rw [e]
      exact k Hc
end
end L2.EH
end S_Q30
section S_M4
set_option maxRecDepth 100000
set_option maxHeartbeats 0
namespace L2.EH
open PySem PySem.Spec PyProof.Rows L2 StX
/-! ### the head's facts as structures -/
theorem fun_bindsA {K : PySem.W.Frag} {x qual : Str} {st : Stmt} {f : Addr} {fd : FuncData} {ps : List Str} (F : Fun K x qual st f fd)
    (h : ∀ (kV doc pm : Value) (an : Option Addr) (cdv ct : Value) (us : List Value), us.length = ps.length → bindArgs (PySem.W.fnOf x qual (defArgs st) (defBody st) (defScope st) .none kV doc pm an cdv ct) ⟨us, []⟩ = pure (ps.zip us)) (s : Shared) (us : List Value) (hl : us.length = ps.length) :
    BindsTo s fd ⟨us, []⟩ (ps.zip us) := by
  obtain ⟨oc, od, kV, doc, pm, an, cdv, ct, osl, rfl, lk, hcd⟩ := F.ex
  exact .of_eq (h kV doc pm an cdv ct us hl)
section
variable {K : PySem.W.Frag} {h : Heap} {mg : Str → Option Value} {w : World}
theorem ex_three (c : SaysP exB fnAll K) : (frees.all fun x => (He.Fa.free x).ok K) = true ∧ ((globs (fnA ++ fnB)).all fun x => (He.Fa.glo x).ok K) = true ∧ (factsB K).all id = true := by
  have e := c.ex
  unfold exB at e
  obtain ⟨e1, e2⟩ := Bool.and_eq_true_iff.mp e
  obtain ⟨e3, e4⟩ := Bool.and_eq_true_iff.mp e2
  exact ⟨e1, e3, e4⟩
theorem h_free (X : K.In h) (G : h.Ns mainGlobals mg) (c : SaysP exB fnAll K) {x : Str} (hx : x ∈ frees) : mg x = none := He.free_ok X G (List.all_eq_true.mp (ex_three c).1 x hx)
theorem h_glob (X : K.In h) (G : h.Ns mainGlobals mg) (c : SaysP exB fnAll K) {x : Str} (hx : x ∈ globs (fnA ++ fnB)) : mg x = some (.ref (He.ga K x)) := He.glo_ok X G (List.all_eq_true.mp (ex_three c).2.1 x hx)
theorem h_fact (c : SaysP exB fnAll K) (i : Nat) {b : Bool} (hb : (factsB K)[i]? = some b) : b = true := List.all_eq_true.mp (ex_three c).2.2 b (List.mem_of_getElem? hb)
/-- all that the head tells of names -/
structure HF (K : PySem.W.Frag) (w : World) (mg : Str → Option Value) : Prop where
  b : BN mg
  gcd : mg "gcd" = some (.builtin "math.gcd")
  lcm : mg "lcm" = some (.builtin "math.lcm")
  plain : ∃ t, mg "PLAIN_LINES" = some (.int 100 t)
  states : ∃ t, mg "STATES" = some (.int 1024 t)
  modulus : ∃ t, mg "MODULUS" = some (.int 12 t)
  g : mg "PlainRule" = some (.ref (He.ga K "PlainRule"))
  t : PlainC K (He.ga K "PlainRule")
  mkr : Mk K (He.ga K "PlainRule") (mth "PlainRule" "__init__" K)
  c : mg "CHECKS" = some (.ref (He.ga K "CHECKS"))
  th : mg "THINGS" = some (.ref (He.ga K "THINGS"))
  dc : ∃ es n, KDict K w (He.ga K "CHECKS") es n
  kc : KDct K w (He.ga K "CHECKS") "rests" (.ref (He.ga K "is_rests"))
  kt : KDct K w (He.ga K "THINGS") "rests" (.int 3)
theorem hf (X : K.In h) (G : h.Ns mainGlobals mg) (cl : SaysL exB fnAll tabs w K) : HF K w mg := by
  have c := cl.p
  have dC := cl.tab 0 rfl
  have dT := cl.tab 1 rfl
  exact {
    b := ⟨h_free X G c (by decide +kernel), h_free X G c (by decide +kernel), h_free X G c (by decide +kernel), h_free X G c (by decide +kernel), h_free X G c (by decide +kernel), h_free X G c (by decide +kernel), h_free X G c (by decide +kernel), h_free X G c (by decide +kernel), h_free X G c (by decide +kernel), h_free X G c (by decide +kernel), h_free X G c (by decide +kernel), h_free X G c (by decide +kernel), h_free X G c (by decide +kernel), h_free X G c (by decide +kernel), h_free X G c (by decide +kernel), h_free X G c (by decide +kernel), h_free X G c (by decide +kernel), h_free X G c (by decide +kernel)⟩
    gcd := PySem.W.mg_of X G (He.eqO_ok (h_fact c 0 (b := He.eqO (PySem.W.nsIn K mainGlobals "gcd") (some (some (.builtin "math.gcd")))) rfl))
    lcm := PySem.W.mg_of X G (He.eqO_ok (h_fact c 1 (b := He.eqO (PySem.W.nsIn K mainGlobals "lcm") (some (some (.builtin "math.lcm")))) rfl))
    plain := He.int_ok X G (h_fact c 2 (b := intB K "PLAIN_LINES" 100) rfl)
    states := He.int_ok X G (h_fact c 3 (b := intB K "STATES" 1024) rfl)
    modulus := He.int_ok X G (h_fact c 4 (b := intB K "MODULUS" 12) rfl)
    g := He.glo_ok X G (h_fact c 5 (b := (He.Fa.glo "PlainRule").ok K) rfl)
    t := ⟨He.cls_ok (h_fact c 6 (b := (He.Fa.cls "PlainRule").ok K) rfl), He.noat_ok (h_fact c 7 (b := (He.Fa.noat "PlainRule" "halves").ok K) rfl), He.noat_ok (h_fact c 8 (b := (He.Fa.noat "PlainRule" "starts").ok K) rfl), He.noat_ok (h_fact c 9 (b := (He.Fa.noat "PlainRule" "answer").ok K) rfl)⟩
    mkr := He.mkr_ok (h_fact c 10 (b := (He.Fa.mkr "PlainRule").ok K) rfl)
    c := He.glo_ok X G (h_fact c 11 (b := (He.Fa.glo "CHECKS").ok K) rfl)
    th := He.glo_ok X G (h_fact c 12 (b := (He.Fa.glo "THINGS").ok K) rfl)
    dc := dC
    kc := by
      obtain ⟨es, n, D⟩ := dC
      exact ⟨es, n, _, D.at_, D.lit, He.eqO_ok (h_fact c 16 (b := He.eqO (PySem.W.nsIn K (He.ga K "CHECKS") "rests") (some (some (.ref (He.ga K "is_rests"))))) rfl), rfl⟩
    kt := by
      obtain ⟨es, n, D⟩ := dT
      have q := h_fact c 17 (b := (match PySem.W.nsIn K (He.ga K "THINGS") "rests" with | some (some (.int j _)) => decide (j = 3) | _ => false)) rfl
      cases e : PySem.W.nsIn K (He.ga K "THINGS") "rests" with
      | none => rw [e] at q; cases q
      | some r =>
        cases r with
        | none => rw [e] at q; cases q
        | some u =>
          cases u with
          | int j t =>
            rw [e] at q
            obtain rfl : j = 3 := of_decide_eq_true q
            exact ⟨es, n, _, D.at_, D.lit, e, ⟨t, rfl⟩⟩
          | _ => rw [e] at q; cases q }
end
end L2.EH
end S_M4
section S_M5
set_option maxRecDepth 100000
set_option maxHeartbeats 0
namespace L2.EH
open PySem PySem.Spec PyProof.Rows L2 StX
/-! ### from the head's facts to the law's promise -/
section
variable {P : Program} {w : World} {K : PySem.W.Frag} {h : Heap} {mg : Str → Option Value} {base : Heap}
theorem facts_law (X : K.In h) (G : h.Ns mainGlobals mg) {f : Addr} (hfa : mg ("law" : Str) = some (.ref f)) (cl : SaysL exB fnAll tabs w K) :
    ∃ fd : FuncData, (∀ (s : Shared) (v : Value), BindsTo s fd ⟨[v], []⟩ [("_law_cells", v)]) ∧ ∀ base : Heap, K.In base → base.Ns mainGlobals mg → FnG P w K mg base CX0 10 f fd ["_law_cells"] (spLaw K) := by
  have c := cl.p
  have T := hf X G cl
  obtain ⟨tP, hPl⟩ := T.plain
  obtain ⟨tS, hSt⟩ := T.states
  obtain ⟨tM, hMo⟩ := T.modulus
  obtain ⟨es1, n1, DC⟩ := T.dc
  obtain ⟨d_F_is_whole, F_is_whole⟩ := c.def_ 0 rfl
  obtain ⟨d_F_is_row_of, F_is_row_of⟩ := c.def_ 1 rfl
  obtain ⟨d_F_is_fraction, F_is_fraction⟩ := c.def_ 2 rfl
  obtain ⟨d_F_is_fraction_row, F_is_fraction_row⟩ := c.def_ 3 rfl
  obtain ⟨d_F_is_between, F_is_between⟩ := c.def_ 4 rfl
  obtain ⟨d_F_is_square, F_is_square⟩ := c.def_ 5 rfl
  obtain ⟨d_F_plain_in, F_plain_in⟩ := c.def_ 6 rfl
  obtain ⟨d_F_shared_row, F_shared_row⟩ := c.def_ 7 rfl
  obtain ⟨d_F_row_times, F_row_times⟩ := c.def_ 8 rfl
  obtain ⟨d_F_is_closed, F_is_closed⟩ := c.def_ 9 rfl
  obtain ⟨d_F_made_row, F_made_row⟩ := c.def_ 10 rfl
  obtain ⟨d_F_matrix_of, F_matrix_of⟩ := c.def_ 11 rfl
  obtain ⟨d_F_are_rows, F_are_rows⟩ := c.def_ 12 rfl
  obtain ⟨d_F_sum_of_products, F_sum_of_products⟩ := c.def_ 13 rfl
  obtain ⟨d_F_are_ascending, F_are_ascending⟩ := c.def_ 14 rfl
  obtain ⟨d_F_is_rests, F_is_rests⟩ := c.def_ 15 rfl
  obtain ⟨d_F_accepts, F_accepts⟩ := c.def_ 16 rfl
  obtain ⟨d_F_law_cell, F_law_cell⟩ := c.def_ 17 rfl
  obtain ⟨d_F_law_source, F_law_source⟩ := c.def_ 18 rfl
  obtain ⟨d_F_law_draw, F_law_draw⟩ := c.def_ 19 rfl
  obtain ⟨d_F_law_image, F_law_image⟩ := c.def_ 20 rfl
  obtain ⟨d_F_law_digits, F_law_digits⟩ := c.def_ 21 rfl
  obtain ⟨d_F_law_lines, F_law_lines⟩ := c.def_ 22 rfl
  obtain ⟨d_F_law_at, F_law_at⟩ := c.def_ 23 rfl
  obtain ⟨d_F_law_number, F_law_number⟩ := c.def_ 24 rfl
  obtain ⟨d_F_law_row, F_law_row⟩ := c.def_ 25 rfl
  obtain ⟨d_F_law_rule, F_law_rule⟩ := c.def_ 26 rfl
  obtain ⟨d_F_law_plain, F_law_plain⟩ := c.def_ 27 rfl
  obtain ⟨d_F_law_rested, F_law_rested⟩ := c.def_ 28 rfl
  obtain ⟨d_F_law_back, F_law_back⟩ := c.def_ 29 rfl
  obtain ⟨d_F_law_papers, F_law_papers⟩ := c.def_ 30 rfl
  obtain ⟨d_F_law_ascending, F_law_ascending⟩ := c.def_ 31 rfl
  obtain ⟨d_F_law_due, F_law_due⟩ := c.def_ 32 rfl
  obtain ⟨d_F_law_bent, F_law_bent⟩ := c.def_ 33 rfl
  obtain ⟨d_F_law_right, F_law_right⟩ := c.def_ 34 rfl
  obtain ⟨d_F_law_many_right, F_law_many_right⟩ := c.def_ 35 rfl
  obtain ⟨d_F_law, F_law⟩ := c.def_ 36 rfl
  obtain ⟨d_F_init, F_init⟩ := c.def_ 37 rfl
  have e := hfa.symm.trans (h_glob X G c (x := "law") (by decide +kernel))
  cases e
  refine ⟨d_F_law, fun s v => fun_bindsA (ps := ["_law_cells"]) F_law (fun _ _ _ _ _ _ us hl => match us, hl with | [_], _ => rfl) s [v] rfl, fun base _ _ => ?_⟩
  have wh : Fn' P w K mg base 1 "is_whole" (He.ga K "is_whole") d_F_is_whole ["value"] spIsWhole := ⟨ok_isWhole F_is_whole T.b, F_is_whole.binds fun _ _ _ _ _ _ us hl => match us, hl with | [_], _ => rfl, h_glob X G c (by decide +kernel), F_is_whole.kp⟩
  have ro : Fn' P w K mg base 1 "is_row_of" (He.ga K "is_row_of") d_F_is_row_of ["value", "many"] (spIsRowOf K) := ⟨ok_isRowOf F_is_row_of T.b, F_is_row_of.binds fun _ _ _ _ _ _ us hl => match us, hl with | [_, _], _ => rfl, h_glob X G c (by decide +kernel), F_is_row_of.kp⟩
  have fr : Fn' P w K mg base 2 "is_fraction" (He.ga K "is_fraction") d_F_is_fraction ["value"] (spIsFraction K) := ⟨ok_isFraction F_is_fraction T.gcd wh ro, F_is_fraction.binds fun _ _ _ _ _ _ us hl => match us, hl with | [_], _ => rfl, h_glob X G c (by decide +kernel), F_is_fraction.kp⟩
  have ff : Fn' P w K mg base 3 "is_fraction_row" (He.ga K "is_fraction_row") d_F_is_fraction_row ["value", "many"] (spIsFractionRow K) := ⟨ok_isFractionRow F_is_fraction_row T.b fr ro, F_is_fraction_row.binds fun _ _ _ _ _ _ us hl => match us, hl with | [_, _], _ => rfl, h_glob X G c (by decide +kernel), F_is_fraction_row.kp⟩
  have be : Fn' P w K mg base 2 "is_between" (He.ga K "is_between") d_F_is_between ["value", "low", "high"] spIsBetween := ⟨ok_isBetween F_is_between wh, F_is_between.binds fun _ _ _ _ _ _ us hl => match us, hl with | [_, _, _], _ => rfl, h_glob X G c (by decide +kernel), F_is_between.kp⟩
  have sq : Fn' P w K mg base 4 "is_square" (He.ga K "is_square") d_F_is_square ["value", "many"] (spIsSquare K) := ⟨ok_isSquare F_is_square T.b ff ro, F_is_square.binds fun _ _ _ _ _ _ us hl => match us, hl with | [_, _], _ => rfl, h_glob X G c (by decide +kernel), F_is_square.kp⟩
  have sh : Fn' P w K mg base 1 "shared_row" (He.ga K "shared_row") d_F_shared_row ["fractions"] (spSharedRow K) := ⟨ok_sharedRow F_shared_row T.b T.lcm, F_shared_row.binds fun _ _ _ _ _ _ us hl => match us, hl with | [_], _ => rfl, h_glob X G c (by decide +kernel), F_shared_row.kp⟩
  have rt : Fn' P w K mg base 1 "row_times" (He.ga K "row_times") d_F_row_times ["tops", "values"] (spRowTimes K) := ⟨ok_rowTimes F_row_times T.b, F_row_times.binds fun _ _ _ _ _ _ us hl => match us, hl with | [_, _], _ => rfl, h_glob X G c (by decide +kernel), F_row_times.kp⟩
  have mk : Made P w K mg base 1 "PlainRule" (He.ga K "PlainRule") (mth "PlainRule" "__init__" K) d_F_init ["self", "halves", "starts", "answer"] (spRuleInit (He.ga K "PlainRule")) := ⟨T.mkr, ok_ruleInit F_init T.t, T.g, F_init.binds fun _ _ _ _ _ _ us hl => match us, hl with | [_, _, _, _], _ => rfl⟩
  have pl : Fn' P w K mg base 5 "plain_in" (He.ga K "plain_in") d_F_plain_in ["value"] (spPlainIn K (He.ga K "PlainRule")) := ⟨ok_plainIn F_plain_in T.b hPl wh ro ff sq sh rt mk, F_plain_in.binds fun _ _ _ _ _ _ us hl => match us, hl with | [_], _ => rfl, h_glob X G c (by decide +kernel), F_plain_in.kp⟩
  have mo : Fn' P w K mg base 1 "matrix_of" (He.ga K "matrix_of") d_F_matrix_of ["rows"] (spMatrixOf K) := ⟨ok_matrixOf F_matrix_of T.b, F_matrix_of.binds fun _ _ _ _ _ _ us hl => match us, hl with | [_], _ => rfl, h_glob X G c (by decide +kernel), F_matrix_of.kp⟩
  have sp : Fn' P w K mg base 1 "sum_of_products" (He.ga K "sum_of_products") d_F_sum_of_products ["row", "values"] (spSumProd K) := ⟨ok_sumProd F_sum_of_products T.b, F_sum_of_products.binds fun _ _ _ _ _ _ us hl => match us, hl with | [_, _], _ => rfl, h_glob X G c (by decide +kernel), F_sum_of_products.kp⟩
  have mr : Fn' P w K mg base 2 "made_row" (He.ga K "made_row") d_F_made_row ["row", "columns", "modulus"] (spMadeRow K) := ⟨ok_madeRow F_made_row T.b rt, F_made_row.binds fun _ _ _ _ _ _ us hl => match us, hl with | [_, _, _], _ => rfl, h_glob X G c (by decide +kernel), F_made_row.kp⟩
  have as_ : Fn' P w K mg base 2 "are_ascending" (He.ga K "are_ascending") d_F_are_ascending ["numbers"] (spAreAscending K) := ⟨ok_areAscending F_are_ascending wh, F_are_ascending.binds fun _ _ _ _ _ _ us hl => match us, hl with | [_], _ => rfl, h_glob X G c (by decide +kernel), F_are_ascending.kp⟩
  have ar : Fn' P w K mg base 3 "are_rows" (He.ga K "are_rows") d_F_are_rows ["value", "width", "modulus"] (spAreRows K) := ⟨ok_areRows F_are_rows T.b hSt ro be, F_are_rows.binds fun _ _ _ _ _ _ us hl => match us, hl with | [_, _, _], _ => rfl, h_glob X G c (by decide +kernel), F_are_rows.kp⟩
  have cl_ : Fn' P w K mg base 4 "is_closed" (He.ga K "is_closed") d_F_is_closed ["value", "rule", "modulus", "rests"] (spIsClosed K (He.ga K "PlainRule")) := ⟨ok_isClosed F_is_closed T.b T.t ar mo mr sp, F_is_closed.binds fun _ _ _ _ _ _ us hl => match us, hl with | [_, _, _, _], _ => rfl, h_glob X G c (by decide +kernel), F_is_closed.kp⟩
  have re : Fn' P w K mg base 6 "is_rests" (He.ga K "is_rests") d_F_is_rests ["things", "certificate"] (spIsRests K) := ⟨ok_isRests F_is_rests T.b T.t hMo pl be as_ cl_, F_is_rests.binds fun _ _ _ _ _ _ us hl => match us, hl with | [_, _], _ => rfl, h_glob X G c (by decide +kernel), F_is_rests.kp⟩
  have ac : Fn' P w K mg base 7 "accepts" (He.ga K "accepts") d_F_accepts ["claim", "certificate"] (spAccepts K) := ⟨ok_accepts (es2 := #[]) (n2 := 0) F_accepts T.b T.c T.th DC T.kc T.kt re.ok re.b re.k, F_accepts.binds fun _ _ _ _ _ _ us hl => match us, hl with | [_, _], _ => rfl, h_glob X G c (by decide +kernel), F_accepts.kp⟩
  have ce : Fn' P w K mg base 1 "_law_cell" (He.ga K "_law_cell") d_F_law_cell ["_law_cells", "_law_spot"] (spCell K) := ⟨ok_cell F_law_cell T.b, F_law_cell.binds fun _ _ _ _ _ _ us hl => match us, hl with | [_, _], _ => rfl, h_glob X G c (by decide +kernel), F_law_cell.kp⟩
  have so : Fn' P w K mg base 1 "_law_source" (He.ga K "_law_source") d_F_law_source ["_law_cell_here"] spSource := ⟨ok_source F_law_source T.b, F_law_source.binds fun _ _ _ _ _ _ us hl => match us, hl with | [_], _ => rfl, h_glob X G c (by decide +kernel), F_law_source.kp⟩
  have dr : Fn' P w K mg base 1 "_law_draw" (He.ga K "_law_draw") d_F_law_draw ["_law_source_here", "_law_many"] spDraw := ⟨ok_draw F_law_draw T.b, F_law_draw.binds fun _ _ _ _ _ _ us hl => match us, hl with | [_, _], _ => rfl, h_glob X G c (by decide +kernel), F_law_draw.kp⟩
  have im : Fn' P w K mg base 1 "_law_image" (He.ga K "_law_image") d_F_law_image ["_law_rows", "_law_worths"] (spImage K) := ⟨ok_image F_law_image T.b, F_law_image.binds fun _ _ _ _ _ _ us hl => match us, hl with | [_, _], _ => rfl, h_glob X G c (by decide +kernel), F_law_image.kp⟩
  have dg : Fn' P w K mg base 1 "_law_digits" (He.ga K "_law_digits") d_F_law_digits ["_law_at_here"] spDigits := ⟨ok_digits F_law_digits T.b, F_law_digits.binds fun _ _ _ _ _ _ us hl => match us, hl with | [_], _ => rfl, h_glob X G c (by decide +kernel), F_law_digits.kp⟩
  have li : Fn' P w K mg base 2 "_law_lines" (He.ga K "_law_lines") d_F_law_lines ["_law_some", "_law_at_here"] (spLines K) := ⟨ok_lines F_law_lines T.b dg im, F_law_lines.binds fun _ _ _ _ _ _ us hl => match us, hl with | [_, _], _ => rfl, h_glob X G c (by decide +kernel), F_law_lines.kp⟩
  have at_ : Fn' P w K mg base 3 "_law_at" (He.ga K "_law_at") d_F_law_at ["_law_some", "_law_at_here"] (spAt K) := ⟨ok_at F_law_at li im, F_law_at.binds fun _ _ _ _ _ _ us hl => match us, hl with | [_, _], _ => rfl, h_glob X G c (by decide +kernel), F_law_at.kp⟩
  have nu : Fn' P w K mg base 2 "_law_number" (He.ga K "_law_number") d_F_law_number ["_law_source_here", "_law_wide"] spNumber := ⟨ok_number F_law_number dr, F_law_number.binds fun _ _ _ _ _ _ us hl => match us, hl with | [_, _], _ => rfl, h_glob X G c (by decide +kernel), F_law_number.kp⟩
  have rw_ : Fn' P w K mg base 3 "_law_row" (He.ga K "_law_row") d_F_law_row ["_law_source_here", "_law_many", "_law_wide"] spRow := ⟨ok_row F_law_row T.b nu, F_law_row.binds fun _ _ _ _ _ _ us hl => match us, hl with | [_, _, _], _ => rfl, h_glob X G c (by decide +kernel), F_law_row.kp⟩
  have ru : Fn' P w K mg base 4 "_law_rule" (He.ga K "_law_rule") d_F_law_rule ["_law_source_here", "_law_many", "_law_wide"] (spRule K) := ⟨ok_rule F_law_rule T.b dr rw_ im, F_law_rule.binds fun _ _ _ _ _ _ us hl => match us, hl with | [_, _, _], _ => rfl, h_glob X G c (by decide +kernel), F_law_rule.kp⟩
  have pn : Fn' P w K mg base 1 "_law_plain" (He.ga K "_law_plain") d_F_law_plain ["_law_some"] (spPlain K) := ⟨ok_plain F_law_plain T.b, F_law_plain.binds fun _ _ _ _ _ _ us hl => match us, hl with | [_], _ => rfl, h_glob X G c (by decide +kernel), F_law_plain.kp⟩
  have rs : Fn' P w K mg base 1 "_law_rested" (He.ga K "_law_rested") d_F_law_rested ["_law_row_here", "_law_modulus_here"] (spRested K) := ⟨ok_rested F_law_rested T.b, F_law_rested.binds fun _ _ _ _ _ _ us hl => match us, hl with | [_, _], _ => rfl, h_glob X G c (by decide +kernel), F_law_rested.kp⟩
  have ba : Fn' P w K mg base 2 "_law_back" (He.ga K "_law_back") d_F_law_back ["_law_some", "_law_row_here", "_law_digit", "_law_modulus_here"] (spBack K) := ⟨ok_back F_law_back T.b rs, F_law_back.binds fun _ _ _ _ _ _ us hl => match us, hl with | [_, _, _, _], _ => rfl, h_glob X G c (by decide +kernel), F_law_back.kp⟩
  have an : Fn' P w K mg base 1 "_law_ascending" (He.ga K "_law_ascending") d_F_law_ascending ["_law_rows"] (spAscending K) := ⟨ok_ascending F_law_ascending T.b, F_law_ascending.binds fun _ _ _ _ _ _ us hl => match us, hl with | [_], _ => rfl, h_glob X G c (by decide +kernel), F_law_ascending.kp⟩
  have pa : Fn' P w K mg base 3 "_law_papers" (He.ga K "_law_papers") d_F_law_papers ["_law_some", "_law_modulus_here"] (spPapers K) := ⟨ok_papers F_law_papers T.b rs ba im an, F_law_papers.binds fun _ _ _ _ _ _ us hl => match us, hl with | [_, _], _ => rfl, h_glob X G c (by decide +kernel), F_law_papers.kp⟩
  have du : Fn' P w K mg base 3 "_law_due" (He.ga K "_law_due") d_F_law_due ["_law_some", "_law_modulus_here", "_law_ends", "_law_rows"] (spDue K) := ⟨ok_due F_law_due T.b rs ba im, F_law_due.binds fun _ _ _ _ _ _ us hl => match us, hl with | [_, _, _, _], _ => rfl, h_glob X G c (by decide +kernel), F_law_due.kp⟩
  have bt : Fn' P w K mg base 2 "_law_bent" (He.ga K "_law_bent") d_F_law_bent ["_law_source_here", "_law_rows", "_law_modulus_here"] (spBent K) := ⟨ok_bent F_law_bent T.b dr an, F_law_bent.binds fun _ _ _ _ _ _ us hl => match us, hl with | [_, _, _], _ => rfl, h_glob X G c (by decide +kernel), F_law_bent.kp⟩
  have my := ok_manyRight (P := P) (w := w) (mg := mg) (base := base) F_law_many_right T.b dr nu ac
  have ri := ok_right (P := P) (w := w) (mg := mg) (base := base) F_law_right T.b dr ru pa pn ac at_ du bt my (h_glob X G c (by decide +kernel)) F_law_many_right.kp (F_law_many_right.binds fun _ _ _ _ _ _ us hl => match us, hl with | [_], _ => rfl)
  exact ok_law F_law T.b ac ce so ri (h_glob X G c (by decide +kernel)) F_law_right.kp (F_law_right.binds fun _ _ _ _ _ _ us hl => match us, hl with | [_], _ => rfl)
end
end L2.EH
end S_M5
set_option maxRecDepth 100000
set_option maxHeartbeats 0
open PySem PySem.W PySem.Calls PyProof.Rows
theorem PySem.Challenge.cw_halverules_k63_rests_judged_holds : PySem.Challenge.rw_halverules_k63_rests_judged.Holds :=
  L2.EH.head_gives fun w mg fa h K KX G hmg c => by
    obtain ⟨fd, hb, hF⟩ := L2.EH.facts_law (P := (PySem.Challenge.rw_halverules_k63_rests_judged).prog) (w := w) KX G hmg c
    exact ⟨fd, L2.EH.spLaw K, hb, fun H a ns hl _ hS => ⟨a, ns, rfl, hS, hl, fun _ => rfl⟩, hF⟩
