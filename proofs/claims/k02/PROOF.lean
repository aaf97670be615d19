import PyProof.Rows.All
import Wide.All
import OpenK.AllK
import Wide.FinOn
import HandS.ForMost
import HandS.Exc
import HandS.Wide
import HandS.WideBits
import HandS.Gcd
import HandS.DictComp
import HandS.Iter
import HandS.Conv
import HandS.RevRange
import HandS.Star
import HandS.Property
import HandS.OwnEq
import HandS.IsInst
import KE.KStateDown
import HandS.Defaults
import HandS.Head0
import HandS.Head1
import HandS.Head2
import HandS.Head3
import HandS.HeadEnd
import HandS.HeadHook1
import HandS.HeadHook2
import HandS.More
import HandS.Dict
import HandS.List
import HandS.Walk
import HandS.Codes
import HandS.ExcOwn
import HandS.WordsExc
import HandS.TryOnly
import PySem.Challenge.RW_halverules_k02_constants_n_and_singles
set_option Elab.async false
set_option linter.all false
section S_HalvesLin
/- Combinations of functions from the numbers to the fractions: spans, independent lists, exchange. Pure; needs nothing. -/
namespace L2.Halves

abbrev Vec (ι : Type) := ι → Rat
abbrev Fn := Vec Nat

variable {ι κ : Type}

/-- The combinations of the functions of a kind. -/
inductive Span (S : Vec ι → Prop) : Vec ι → Prop
  | zero : Span S (fun _ => 0)
  | more (a : Rat) (s v : Vec ι) : S s → Span S v → Span S (fun n => a * s n + v n)

theorem Span.congr {S : Vec ι → Prop} {u v : Vec ι} (h : Span S u) (e : ∀ n, u n = v n) : Span S v := by
  have : u = v := funext e
  exact this ▸ h

theorem Span.of {S : Vec ι → Prop} {s : Vec ι} (h : S s) : Span S s :=
  (Span.more 1 s _ h .zero).congr (fun n => by grind)

theorem Span.add {S : Vec ι → Prop} {u v : Vec ι} (hu : Span S u) (hv : Span S v) : Span S (fun n => u n + v n) := by
  induction hu with
  | zero => exact hv.congr (fun n => by grind)
  | more a s w hs _ ih => exact (Span.more a s _ hs ih).congr (fun n => by grind)

theorem Span.smul {S : Vec ι → Prop} {v : Vec ι} (c : Rat) (hv : Span S v) : Span S (fun n => c * v n) := by
  induction hv with
  | zero => exact Span.zero.congr (fun n => by grind)
  | more a s w hs _ ih => exact (Span.more (c * a) s _ hs ih).congr (fun n => by grind)

theorem Span.trans {S T : Vec ι → Prop} {v : Vec ι} (h : ∀ s, S s → Span T s) (hv : Span S v) : Span T v := by
  induction hv with
  | zero => exact .zero
  | more a s w hs _ ih => exact ((h s hs).smul a).add ih

theorem Span.mono {S T : Vec ι → Prop} {v : Vec ι} (h : ∀ s, S s → T s) (hv : Span S v) : Span T v :=
  hv.trans (fun s hs => .of (h s hs))

/-- A map that goes by another place: it takes combinations to combinations. -/
theorem Span.at {S : Vec ι → Prop} {T : Vec κ → Prop} {v : Vec ι} (g : κ → ι) (h : ∀ s, S s → Span T (fun n => s (g n)))
    (hv : Span S v) : Span T (fun n => v (g n)) := by
  induction hv with
  | zero => exact .zero
  | more a s w hs _ ih => exact ((h s hs).smul a).add ih

theorem Span.empty {v : Vec ι} (h : Span (fun _ => False) v) : ∀ n, v n = 0 := by
  induction h with
  | zero => intro n; rfl
  | more a s w hs _ _ => exact hs.elim

/-- What is 0 at a place for all, is for combinations. -/
theorem Span.zero_at {S : Vec ι → Prop} {v : Vec ι} (n : ι) (h : ∀ s, S s → s n = 0) (hv : Span S v) : v n = 0 := by
  induction hv with
  | zero => rfl
  | more a s w hs _ ih => have := h s hs; grind

/-- One more: so many times it and a combination of the others. -/
theorem Span.cons {S : Vec ι → Prop} {m v : Vec ι} (h : Span (fun x => x = m ∨ S x) v) :
    ∃ c w, Span S w ∧ ∀ n, v n = c * m n + w n := by
  induction h with
  | zero => exact ⟨0, _, .zero, fun n => by grind⟩
  | more a s w hs _ ih =>
    obtain ⟨c, u, hu, e⟩ := ih
    rcases hs with hs | hs
    · subst hs
      exact ⟨a + c, u, hu, fun n => by have := e n; grind⟩
    · exact ⟨c, _, .more a s u hs hu, fun n => by have := e n; grind⟩

/-- The exchange: f hangs on L and M, but not on L alone; then one of M hangs on the rest of them and f. -/
theorem exchange {L : Vec ι → Prop} {f : Vec ι} (hL : ¬ Span L f) : ∀ M : List (Vec ι), Span (fun x => L x ∨ x ∈ M) f →
    ∃ A m B, M = A ++ m :: B ∧ Span (fun x => L x ∨ x = f ∨ x ∈ A ∨ x ∈ B) m
  | [], h => absurd (h.mono (fun s hs => by simpa using hs)) hL
  | m :: B, h => by
    have h' : Span (fun x => x = m ∨ (L x ∨ x ∈ B)) f := h.mono (fun s hs => by
      rcases hs with hs | hs
      · exact .inr (.inl hs)
      · rcases List.mem_cons.1 hs with hs | hs
        · exact .inl hs
        · exact .inr (.inr hs))
    obtain ⟨c, w, hw, e⟩ := h'.cons
    by_cases hc : c = 0
    · have : Span (fun x => L x ∨ x ∈ B) f := hw.congr (fun n => by have := e n; grind)
      obtain ⟨A, m', B', e', h''⟩ := exchange hL B this
      refine ⟨m :: A, m', B', by simp [e'], h''.mono (fun s hs => ?_)⟩
      rcases hs with hs | hs | hs | hs
      · exact .inl hs
      · exact .inr (.inl hs)
      · exact .inr (.inr (.inl (List.mem_cons_of_mem _ hs)))
      · exact .inr (.inr (.inr hs))
    · refine ⟨[], m, B, rfl, ?_⟩
      have h1 : Span (fun x => L x ∨ x = f ∨ x ∈ ([] : List (Vec ι)) ∨ x ∈ B) (fun n => (1 / c) * f n) :=
        (Span.of (.inr (.inl rfl))).smul _
      have h2 : Span (fun x => L x ∨ x = f ∨ x ∈ ([] : List (Vec ι)) ∨ x ∈ B) (fun n => (-1 / c) * w n) :=
        (hw.mono (fun s hs => by
          rcases hs with hs | hs
          · exact .inl hs
          · exact .inr (.inr (.inr hs)))).smul _
      exact (h1.add h2).congr (fun n => by have := e n; grind)

/-- No function of the list is a combination of those before it (and of L). -/
def Free (L : Vec ι → Prop) (F : List (Vec ι)) : Prop :=
  ∀ A f B, F = A ++ f :: B → ¬ Span (fun x => L x ∨ x ∈ A) f

theorem free_le : ∀ (F M : List (Vec ι)) (L : Vec ι → Prop), Free L F → (∀ f, f ∈ F → Span (fun x => L x ∨ x ∈ M) f) →
    F.length ≤ M.length
  | [], _, _, _, _ => Nat.zero_le _
  | f :: F, M, L, hF, hM => by
    have h0 : ¬ Span L f := fun h => hF [] f F rfl (h.mono (fun s hs => .inl hs))
    obtain ⟨A, m, B, eM, hm⟩ := exchange h0 M (hM f (by simp))
    have hF' : Free (fun x => L x ∨ x = f) F := by
      intro A' g B' e h
      refine hF (f :: A') g B' (by simp [e]) (h.mono (fun s hs => ?_))
      rcases hs with (hs | hs) | hs
      · exact .inl hs
      · exact .inr (by simp [hs])
      · exact .inr (List.mem_cons_of_mem _ hs)
    have := free_le F (A ++ B) (fun x => L x ∨ x = f) hF' (fun g hg => by
      refine (hM g (by simp [hg])).trans (fun s hs => ?_)
      rcases hs with hs | hs
      · exact .of (.inl (.inl hs))
      · subst eM
        rcases List.mem_append.1 hs with hs | hs
        · exact .of (.inr (List.mem_append.2 (.inl hs)))
        · rcases List.mem_cons.1 hs with hs | hs
          · subst hs
            refine hm.mono (fun t ht => ?_)
            rcases ht with ht | ht | ht | ht
            · exact .inl (.inl ht)
            · exact .inl (.inr ht)
            · exact .inr (List.mem_append.2 (.inl ht))
            · exact .inr (List.mem_append.2 (.inr ht))
          · exact .of (.inr (List.mem_append.2 (.inr hs))))
    subst eM
    simp at this ⊢
    omega

/-- The sum of the factors times the functions. -/
def lin : List Rat → List (Vec ι) → Vec ι
  | c :: cs, f :: fs => fun n => c * f n + lin cs fs n
  | _, _ => fun _ => 0

theorem lin_nil (cs : List Rat) (n : Nat) : lin cs [] n = 0 := by cases cs <;> rfl

theorem lin_snoc : ∀ (cs : List Rat) (fs : List (Vec ι)) (c : Rat) (f : Vec ι) (n : ι), cs.length = fs.length →
    lin (cs ++ [c]) (fs ++ [f]) n = lin cs fs n + c * f n
  | [], [], c, f, n, _ => by simp [lin]; grind
  | d :: cs, g :: fs, c, f, n, h => by
    have := lin_snoc cs fs c f n (by simpa using h)
    simp only [List.cons_append, lin, this]; grind
  | [], _ :: _, _, _, _, h => by simp at h
  | _ :: _, [], _, _, _, h => by simp at h

theorem lin_span : ∀ (cs : List Rat) (fs : List (Vec ι)), Span (· ∈ fs) (lin cs fs)
  | [], fs => by cases fs <;> exact .zero
  | c :: cs, [] => .zero
  | c :: cs, f :: fs =>
    .more c f _ (by simp) ((lin_span cs fs).mono (fun s hs => List.mem_cons_of_mem _ hs))

theorem span_lin : ∀ (fs : List (Vec ι)) (v : Vec ι), Span (· ∈ fs) v → ∃ cs, cs.length = fs.length ∧ ∀ n, v n = lin cs fs n
  | [], v, h => ⟨[], rfl, fun n => by
      have := (h.mono (T := fun _ => False) (fun s hs => by simp at hs)).empty n
      simpa [lin] using this⟩
  | f :: fs, v, h => by
    obtain ⟨c, w, hw, e⟩ := (h.mono (T := fun x => x = f ∨ x ∈ fs) (fun s hs => List.mem_cons.1 hs)).cons
    obtain ⟨cs, hl, e'⟩ := span_lin fs w hw
    exact ⟨c :: cs, by simp [hl], fun n => by rw [e n, e' n]; rfl⟩

/-- The factors are unique where the functions are free. -/
theorem lin_unique : ∀ (m : Nat) (fs : List (Vec ι)), fs.length = m → Free (fun _ => False) fs → ∀ cs ds : List Rat,
    cs.length = fs.length → ds.length = fs.length → (∀ n, lin cs fs n = lin ds fs n) → cs = ds
  | 0, fs, hm, _, cs, ds, hc, hd, _ => by
    have e1 := List.eq_nil_of_length_eq_zero (hc.trans hm)
    have e2 := List.eq_nil_of_length_eq_zero (hd.trans hm)
    rw [e1, e2]
  | m + 1, fs, hm, hf, cs, ds, hc, hd, h => by
    have ne : fs ≠ [] := by intro e; simp [e] at hm
    have nc : cs ≠ [] := by intro e; simp [e] at hc; omega
    have nd : ds ≠ [] := by intro e; simp [e] at hd; omega
    obtain ⟨gs, g, rfl⟩ : ∃ gs g, fs = gs ++ [g] := ⟨_, _, (List.dropLast_concat_getLast ne).symm⟩
    obtain ⟨cs', c, rfl⟩ : ∃ gs g, cs = gs ++ [g] := ⟨_, _, (List.dropLast_concat_getLast nc).symm⟩
    obtain ⟨ds', d, rfl⟩ : ∃ gs g, ds = gs ++ [g] := ⟨_, _, (List.dropLast_concat_getLast nd).symm⟩
    have lc : cs'.length = gs.length := by simpa using hc
    have ld : ds'.length = gs.length := by simpa using hd
    have hs : ∀ n, lin cs' gs n + c * g n = lin ds' gs n + d * g n := fun n => by
      have := h n
      rwa [lin_snoc _ _ _ _ _ lc, lin_snoc _ _ _ _ _ ld] at this
    by_cases e : c = d
    · subst e
      have := lin_unique m gs (by simpa using hm) (fun A f B e => hf A f (B ++ [g]) (by simp [e])) cs' ds' lc ld
        (fun n => by have := hs n; grind)
      rw [this]
    · refine absurd ?_ (hf gs g [] rfl)
      have h1 := (lin_span cs' gs).smul (1 / (d - c))
      have h2 := (lin_span ds' gs).smul (-1 / (d - c))
      have hne : d - c ≠ 0 := by grind
      refine ((h1.add h2).congr (v := g) (fun n => ?_)).mono (fun s hs => .inr hs)
      have := hs n
      have e1 : (d - c) * g n = lin cs' gs n - lin ds' gs n := by grind
      grind

end L2.Halves
end S_HalvesLin
section S_HalvesParts
/- Parts, basic parts, and the least rule of a function: what they are, that it is unique, and how it is found. Pure. -/
namespace L2.Halves

/-- The part (k, r). -/
def part (f : Fn) (k r : Nat) : Fn := fun n => f (2 ^ k * n + r)

/-- A function at 2 n + d. -/
def half (f : Fn) (d : Nat) : Fn := fun n => f (2 * n + d)

theorem part_zero (f : Fn) : part f 0 0 = f := by funext n; simp [part]

theorem half_part (f : Fn) (k r d : Nat) : half (part f k r) d = part f (k + 1) (r + d * 2 ^ k) := by
  funext n
  simp only [half, part]
  congr 1
  rw [Nat.pow_succ]; grind

theorem Span.half {S T : Fn → Prop} {v : Fn} (d : Nat) (h : ∀ s, S s → Span T (half s d)) (hv : Span S v) :
    Span T (half v d) := hv.at (fun n => 2 * n + d) h

/-- The order of the parts: by k, and by r among equal k. -/
def Before (p q : Nat × Nat) : Prop := p.1 < q.1 ∨ p.1 = q.1 ∧ p.2 < q.2

instance (p q : Nat × Nat) : Decidable (Before p q) := inferInstanceAs (Decidable (_ ∨ _))

theorem Before.trans {p q r : Nat × Nat} (h : Before p q) (h' : Before q r) : Before p r := by
  unfold Before at *; omega

theorem Before.irrefl (p : Nat × Nat) : ¬ Before p p := by unfold Before; omega

theorem Before.total (p q : Nat × Nat) : Before p q ∨ p = q ∨ Before q p := by
  obtain ⟨a, b⟩ := p
  obtain ⟨c, d⟩ := q
  simp only [Before, Prod.mk.injEq]; omega

/-- A pair that tells a part. -/
def IsPart (p : Nat × Nat) : Prop := p.2 < 2 ^ p.1

/-- The parts before one. -/
def Earlier (f : Fn) (p : Nat × Nat) (s : Fn) : Prop := ∃ q, IsPart q ∧ Before q p ∧ s = part f q.1 q.2

/-- A part that is no combination of the parts before it. -/
def Basic (f : Fn) (p : Nat × Nat) : Prop := IsPart p ∧ ¬ Span (Earlier f p) (part f p.1 p.2)

/-- The parts of a list before a pair. -/
def Listed (f : Fn) (P : List (Nat × Nat)) (C : Nat × Nat → Prop) (s : Fn) : Prop :=
  ∃ q, q ∈ P ∧ C q ∧ s = part f q.1 q.2

/-- What the search for the basic parts leaves: its list, in order; each is new; each half is on it or hangs on those
before; and so is the function itself. -/
structure Searched (f : Fn) (P : List (Nat × Nat)) : Prop where
  isPart : ∀ p, p ∈ P → IsPart p
  fresh : ∀ p, p ∈ P → ¬ Span (Listed f P (Before · p)) (part f p.1 p.2)
  first : (0, 0) ∈ P ∨ Span (fun _ => False) f
  halves : ∀ p, p ∈ P → ∀ d, d < 2 → (p.1 + 1, p.2 + d * 2 ^ p.1) ∈ P ∨
    Span (Listed f P (Before · (p.1 + 1, p.2 + d * 2 ^ p.1))) (part f (p.1 + 1) (p.2 + d * 2 ^ p.1))

/-- Each part is a combination of those of the list up to it. -/
theorem Searched.upTo {f : Fn} {P : List (Nat × Nat)} (h : Searched f P) : ∀ k r, r < 2 ^ k →
    Span (Listed f P (fun q => q = (k, r) ∨ Before q (k, r))) (part f k r)
  | 0, r, hr => by
    have : r = 0 := by simp at hr; omega
    subst this
    rw [part_zero]
    rcases h.first with h1 | h1
    · exact .of ⟨(0, 0), h1, .inl rfl, (part_zero f).symm⟩
    · exact h1.mono (fun _ hs => hs.elim)
  | k + 1, r, hr => by
    obtain ⟨d, r', hd, hr', e⟩ : ∃ d r', d < 2 ∧ r' < 2 ^ k ∧ r = r' + d * 2 ^ k := by
      rw [Nat.pow_succ] at hr
      by_cases c : r < 2 ^ k
      · exact ⟨0, r, by omega, c, by omega⟩
      · exact ⟨1, r - 2 ^ k, by omega, by omega, by omega⟩
    subst e
    rw [← half_part]
    refine (h.upTo k r' hr').half d ?_
    rintro s ⟨q, hq, hb, rfl⟩
    rw [half_part]
    have hle : (q.1 + 1, q.2 + d * 2 ^ q.1) = (k + 1, r' + d * 2 ^ k) ∨
        Before (q.1 + 1, q.2 + d * 2 ^ q.1) (k + 1, r' + d * 2 ^ k) := by
      rcases hb with hb | hb
      · subst hb; exact .inl rfl
      · right
        unfold Before at *
        rcases hb with hb | ⟨hb, hb'⟩
        · left; simpa using hb
        · right
          simp only at hb hb'
          exact ⟨by simp [hb], by rw [hb]; simpa using hb'⟩
    rcases h.halves q hq d hd with h1 | h1
    · exact .of ⟨_, h1, hle, rfl⟩
    · refine h1.mono ?_
      rintro s ⟨p, hp, hb', rfl⟩
      refine ⟨p, hp, .inr ?_, rfl⟩
      rcases hle with e | e
      · rw [← e]; exact hb'
      · exact hb'.trans e

/-- The parts before one are combinations of those of the list before it. -/
theorem Searched.earlier {f : Fn} {P : List (Nat × Nat)} (h : Searched f P) {p : Nat × Nat} {v : Fn}
    (hv : Span (Earlier f p) v) : Span (Listed f P (Before · p)) v := by
  refine hv.trans ?_
  rintro s ⟨q, hq, hb, rfl⟩
  refine (h.upTo q.1 q.2 hq).mono ?_
  rintro s ⟨q', hq', hb', rfl⟩
  refine ⟨q', hq', ?_, rfl⟩
  rcases hb' with e | e
  · rw [e]; exact hb
  · exact e.trans hb

theorem Searched.listed {f : Fn} {P : List (Nat × Nat)} (h : Searched f P) {p : Nat × Nat} {v : Fn}
    (hv : Span (Listed f P (Before · p)) v) : Span (Earlier f p) v := by
  refine hv.mono ?_
  rintro s ⟨q, hq, hb, rfl⟩
  exact ⟨q, h.isPart q hq, hb, rfl⟩

/-- The list has the basic parts, all of them, and no others. -/
theorem Searched.basic {f : Fn} {P : List (Nat × Nat)} (h : Searched f P) (p : Nat × Nat) : p ∈ P ↔ Basic f p := by
  constructor
  · exact fun hp => ⟨h.isPart p hp, fun hs => h.fresh p hp (h.earlier hs)⟩
  · rintro ⟨hp, hs⟩
    refine Classical.byContradiction (fun hn => hs (h.listed ?_))
    refine (h.upTo p.1 p.2 hp).mono ?_
    rintro s ⟨q, hq, hb, rfl⟩
    refine ⟨q, hq, ?_, rfl⟩
    rcases hb with e | e
    · exact absurd ((show q = p from e) ▸ hq) hn
    · exact e

/-- In order, each before all later ones. -/
def Sorted (P : List (Nat × Nat)) : Prop := P.Pairwise Before

theorem sorted_unique : ∀ (P Q : List (Nat × Nat)), Sorted P → Sorted Q → (∀ p, p ∈ P ↔ p ∈ Q) → P = Q
  | [], [], _, _, _ => rfl
  | [], q :: Q, _, _, h => by simpa using (h q).2 (by simp)
  | p :: P, [], _, _, h => by simpa using (h p).1 (by simp)
  | p :: P, q :: Q, hP, hQ, h => by
    have hp := List.pairwise_cons.1 hP
    have hq := List.pairwise_cons.1 hQ
    have e : p = q := by
      rcases List.mem_cons.1 ((h p).1 (by simp)) with e | e
      · exact e
      · rcases List.mem_cons.1 ((h q).2 (by simp)) with e' | e'
        · exact e'.symm
        · exact absurd ((hp.1 q e').trans (hq.1 p e)) (Before.irrefl p)
    subst e
    congr 1
    refine sorted_unique P Q hp.2 hq.2 (fun x => ⟨fun hx => ?_, fun hx => ?_⟩)
    · rcases List.mem_cons.1 ((h x).1 (List.mem_cons_of_mem _ hx)) with e | e
      · subst e; exact absurd (hp.1 x hx) (Before.irrefl x)
      · exact e
    · rcases List.mem_cons.1 ((h x).2 (List.mem_cons_of_mem _ hx)) with e | e
      · subst e; exact absurd (hq.1 x hx) (Before.irrefl x)
      · exact e

/-- The functions of a list of parts. -/
def partsOf (f : Fn) (P : List (Nat × Nat)) : List Fn := P.map (fun p => part f p.1 p.2)

theorem sorted_before {P A B : List (Nat × Nat)} {p : Nat × Nat} (h : Sorted P) (e : P = A ++ p :: B) (q : Nat × Nat)
    (hq : q ∈ P) : q ∈ A ↔ Before q p := by
  subst e
  have h1 := List.pairwise_append.1 h
  constructor
  · exact fun ha => h1.2.2 q ha p (by simp)
  · intro hb
    rcases List.mem_append.1 hq with ha | ha
    · exact ha
    · rcases List.mem_cons.1 ha with e | e
      · subst e; exact absurd hb (Before.irrefl _)
      · exact absurd (hb.trans ((List.pairwise_cons.1 h1.2.1).1 q e)) (Before.irrefl _)

theorem Searched.free {f : Fn} {P : List (Nat × Nat)} (h : Searched f P) (hs : Sorted P) :
    Free (fun _ => False) (partsOf f P) := by
  intro A g B e hg
  obtain ⟨A', B', e1, e2, e3⟩ := List.map_eq_append_iff.1 e
  obtain ⟨p, B'', e4, e5, e6⟩ := List.map_eq_cons_iff.1 e3
  subst e4 e5
  refine h.fresh p (by simp [e1]) (hg.mono ?_)
  rintro s (hs' | hs')
  · exact hs'.elim
  · rw [← e2] at hs'
    obtain ⟨q, hq, rfl⟩ := List.mem_map.1 hs'
    have hq' : q ∈ P := by simp [e1, hq]
    exact ⟨q, hq', (sorted_before hs e1 q hq').1 hq, rfl⟩

/-- The least rule of a function. -/
structure Least (f : Fn) (basis : List (Nat × Nat)) (rows : List (List Rat × List Rat)) (firsts : List Rat) : Prop where
  sorted : Sorted basis
  basic : ∀ p, p ∈ basis ↔ Basic f p
  free : Free (fun _ => False) (partsOf f basis)
  whole : Span (· ∈ partsOf f basis) f
  many : rows.length = basis.length
  wide : ∀ i (h : i < rows.length), rows[i].1.length = basis.length ∧ rows[i].2.length = basis.length
  tells : ∀ i (h : i < rows.length) (h' : i < basis.length) n,
    part f basis[i].1 basis[i].2 (2 * n) = lin rows[i].1 (partsOf f basis) n ∧
    part f basis[i].1 basis[i].2 (2 * n + 1) = lin rows[i].2 (partsOf f basis) n
  starts : firsts = (partsOf f basis).map (· 0)

theorem Least.unique {f : Fn} {P Q : List (Nat × Nat)} {R T : List (List Rat × List Rat)} {a b : List Rat}
    (h : Least f P R a) (h' : Least f Q T b) : P = Q ∧ R = T ∧ a = b := by
  have e : P = Q := sorted_unique P Q h.sorted h'.sorted (fun p => (h.basic p).trans (h'.basic p).symm)
  subst e
  refine ⟨rfl, ?_, h.starts.trans h'.starts.symm⟩
  refine List.ext_getElem (h.many.trans h'.many.symm) (fun i h1 h2 => ?_)
  have hi : i < P.length := h.many ▸ h1
  have lp : (partsOf f P).length = P.length := by simp [partsOf]
  refine Prod.ext ?_ ?_
  · exact lin_unique _ _ rfl h.free _ _ (by rw [lp]; exact (h.wide i h1).1) (by rw [lp]; exact (h'.wide i h2).1)
      (fun n => (h.tells i h1 hi n).1.symm.trans (h'.tells i h2 hi n).1)
  · exact lin_unique _ _ rfl h.free _ _ (by rw [lp]; exact (h.wide i h1).2) (by rw [lp]; exact (h'.wide i h2).2)
      (fun n => (h.tells i h1 hi n).2.symm.trans (h'.tells i h2 hi n).2)

/-- Lists of functions with the same values at a place have the same sums there. -/
theorem lin_congr : ∀ (cs : List Rat) (fs gs : List Fn) (n : Nat), fs.map (· n) = gs.map (· n) → lin cs fs n = lin cs gs n
  | [], [], [], _, _ => rfl
  | [], f :: fs, g :: gs, _, _ => rfl
  | c :: cs, [], [], _, _ => rfl
  | c :: cs, f :: fs, g :: gs, n, h => by
    simp only [List.map_cons, List.cons.injEq] at h
    simp only [lin, h.1, lin_congr cs fs gs n h.2]
  | _, [], _ :: _, _, h => by simp at h
  | _, _ :: _, [], _, h => by simp at h

/-- The least rule tells the values of the parts. -/
theorem Least.same {f g : Fn} {P : List (Nat × Nat)} {R : List (List Rat × List Rat)} {a : List Rat}
    (h : Least f P R a) (h' : Least g P R a) : ∀ m n, n ≤ m → (partsOf f P).map (· n) = (partsOf g P).map (· n)
  | m, 0, _ => h.starts.symm.trans h'.starts
  | 0, n + 1, hn => by omega
  | m + 1, n + 1, hn => by
    obtain ⟨k, d, hd, e⟩ : ∃ k d, d < 2 ∧ n + 1 = 2 * k + d := ⟨(n + 1) / 2, (n + 1) % 2, by omega, by omega⟩
    have ih := h.same h' m k (by omega)
    refine List.ext_getElem (by simp [partsOf]) (fun i h1 h2 => ?_)
    have hi : i < P.length := by simpa [partsOf] using h1
    have hr : i < R.length := by rw [h.many]; exact hi
    have key : part f P[i].1 P[i].2 (n + 1) = part g P[i].1 P[i].2 (n + 1) := by
      rw [e]
      rcases (by omega : d = 0 ∨ d = 1) with rfl | rfl
      · exact ((h.tells i hr hi k).1.trans (lin_congr _ _ _ _ ih)).trans (h'.tells i hr hi k).1.symm
      · exact ((h.tells i hr hi k).2.trans (lin_congr _ _ _ _ ih)).trans (h'.tells i hr hi k).2.symm
    simpa [partsOf] using key

/-- Functions with the same least rule are the same. -/
theorem Least.eq {f g : Fn} {P : List (Nat × Nat)} {R : List (List Rat × List Rat)} {a : List Rat}
    (h : Least f P R a) (h' : Least g P R a) : f = g := by
  funext n
  by_cases h0 : (0, 0) ∈ P
  · have := h.same h' n n (Nat.le_refl n)
    obtain ⟨i, hi, e⟩ := List.getElem_of_mem h0
    have e' := congrArg (fun l => l[i]?) this
    simp only [partsOf, List.map_map, List.getElem?_map] at e'
    rw [List.getElem?_eq_getElem hi, e] at e'
    simpa [part] using e'
  · have z : ∀ (u : Fn), ¬ Basic u (0, 0) → u n = 0 := fun u hu => by
      have : Span (Earlier u (0, 0)) u := Classical.byContradiction (fun hn => hu ⟨by simp [IsPart], by
        simpa [part_zero] using hn⟩)
      refine (this.mono (T := fun _ => False) ?_).empty n
      rintro s ⟨q, _, hb, _⟩
      unfold Before at hb; simp at hb
    rw [z f (fun hb => h0 ((h.basic _).2 hb)), z g (fun hb => h0 ((h'.basic _).2 hb))]

end L2.Halves
end S_HalvesParts
section S_HalvesNumbers
/- New numbers: what they are, how they are found, and that there are as many as the rank. Pure. -/
namespace L2.Halves

variable {G H : Fn → Prop} {C D : Nat → Prop}

/-- The values at n of all functions of a kind. -/
def Val (G : Fn → Prop) (n : Nat) : Vec {g // G g} := fun g => g.1 n

/-- Such values at the numbers of a kind. -/
def Vals (G : Fn → Prop) (C : Nat → Prop) (s : Vec {g // G g}) : Prop := ∃ m, C m ∧ s = Val G m

/-- The sum of factors times values. -/
def ev (l : List (Rat × Nat)) (g : Fn) : Rat := (l.map (fun p => p.1 * g p.2)).sum

theorem ev_cons (p : Rat × Nat) (l : List (Rat × Nat)) (g : Fn) : ev (p :: l) g = p.1 * g p.2 + ev l g := by
  simp [ev]

theorem vals_ev {v : Vec {g // G g}} (h : Span (Vals G C) v) :
    ∃ l : List (Rat × Nat), (∀ p, p ∈ l → C p.2) ∧ ∀ g : {g // G g}, v g = ev l g.1 := by
  induction h with
  | zero => exact ⟨[], by simp, fun g => rfl⟩
  | more a s w hs _ ih =>
    obtain ⟨m, hm, rfl⟩ := hs
    obtain ⟨l, hl, e⟩ := ih
    refine ⟨(a, m) :: l, ?_, fun g => by show a * Val G m g + w g = _; rw [ev_cons, e g]; rfl⟩
    intro p hp
    rcases List.mem_cons.1 hp with e | e
    · rw [e]; exact hm
    · exact hl p e

theorem ev_vals : ∀ (l : List (Rat × Nat)), (∀ p, p ∈ l → C p.2) → Span (Vals G C) (fun g => ev l g.1)
  | [], _ => .zero
  | p :: l, h => (Span.more p.1 _ _ ⟨p.2, h p (by simp), rfl⟩ (ev_vals l (fun q hq => h q (by simp [hq])))).congr
      (fun g => (ev_cons p l g.1).symm)

/-- All functions of a kind have at n one and the same combination of their values at numbers of a kind. -/
def Hangs (G : Fn → Prop) (C : Nat → Prop) (n : Nat) : Prop :=
  ∃ l : List (Rat × Nat), (∀ p, p ∈ l → C p.2) ∧ ∀ g, G g → g n = ev l g

theorem hangs_iff {n : Nat} : Hangs G C n ↔ Span (Vals G C) (Val G n) := by
  constructor
  · rintro ⟨l, hl, e⟩
    exact (ev_vals l hl).congr (fun g => (e g.1 g.2).symm)
  · intro h
    obtain ⟨l, hl, e⟩ := vals_ev h
    exact ⟨l, hl, fun g hg => e ⟨g, hg⟩⟩

theorem ev_more (l : List (Rat × Nat)) (a : Rat) (s w : Fn) : ev l (fun n => a * s n + w n) = a * ev l s + ev l w := by
  induction l with
  | nil => simp [ev]; grind
  | cons p l ih => simp only [ev_cons, ih]; grind

theorem ev_zero (l : List (Rat × Nat)) : ev l (fun _ => 0) = 0 := by
  induction l with
  | nil => rfl
  | cons p l ih => simp only [ev_cons, ih]; grind

theorem ev_all {l : List (Rat × Nat)} {n : Nat} (h : ∀ g, G g → g n = ev l g) {g : Fn} (hg : Span G g) : g n = ev l g := by
  induction hg with
  | zero => rw [ev_zero]
  | more a s w hs _ ih => show a * s n + w n = _; rw [ev_more, h s hs, ih]

theorem Hangs.span {n : Nat} (h : Hangs G C n) (e : ∀ g, H g → Span G g) : Hangs H C n := by
  obtain ⟨l, hl, h'⟩ := h
  exact ⟨l, hl, fun g hg => ev_all h' (e g hg)⟩

theorem Hangs.mono {n : Nat} (h : Hangs G C n) (e : ∀ m, C m → D m) : Hangs G D n := by
  obtain ⟨l, hl, h'⟩ := h
  exact ⟨l, fun p hp => e _ (hl p hp), h'⟩

theorem Hangs.of {n : Nat} (h : C n) : Hangs G C n :=
  ⟨[(1, n)], by simpa using h, fun g _ => by simp [ev]; grind⟩

theorem Hangs.trans {n : Nat} (h : Hangs G C n) (e : ∀ m, C m → Hangs G D m) : Hangs G D n := by
  rw [hangs_iff] at *
  refine Span.trans ?_ h
  rintro s ⟨m, hm, rfl⟩
  exact hangs_iff.1 (e m hm)

theorem Hangs.zero {n : Nat} (h : Hangs G C n) {g : Fn} (hg : Span G g) (hz : ∀ m, C m → g m = 0) : g n = 0 := by
  obtain ⟨l, hl, h'⟩ := h
  rw [ev_all h' hg]
  clear h'
  induction l with
  | nil => rfl
  | cons p l ih =>
    rw [ev_cons, hz _ (hl p (by simp)), ih (fun q hq => hl q (by simp [hq]))]; grind

/-- With each function also what it is at 2 n and at 2 n + 1 is a combination of them. -/
def Closed (G : Fn → Prop) : Prop := ∀ g, G g → ∀ d, d < 2 → Span G (half g d)

theorem ev_half (l : List (Rat × Nat)) (g : Fn) (d : Nat) : ev l (half g d) = ev (l.map (fun p => (p.1, 2 * p.2 + d))) g := by
  simp [ev, half, List.map_map, Function.comp_def]

theorem Hangs.half {n d : Nat} (h : Hangs G C n) (hG : Closed G) (hd : d < 2) :
    Hangs G (fun m => ∃ m', C m' ∧ m = 2 * m' + d) (2 * n + d) := by
  obtain ⟨l, hl, h'⟩ := h
  refine ⟨l.map (fun p => (p.1, 2 * p.2 + d)), ?_, fun g hg => ?_⟩
  · intro p hp
    obtain ⟨q, hq, rfl⟩ := List.mem_map.1 hp
    exact ⟨q.2, hl q hq, rfl⟩
  · rw [← ev_half]
    exact ev_all h' (hG g hg d hd)

/-- A number at which the values do not hang on those at lesser numbers. -/
def New (G : Fn → Prop) (n : Nat) : Prop := ¬ Hangs G (· < n) n

theorem New.span {n : Nat} (h : New H n) (e : ∀ g, H g → Span G g) : New G n := fun h' => h (h'.span e)

/-- What the search for new numbers leaves: a list; each of it is new to those before it; each double, and each double
and one, is on it or hangs on those before; and so is 0. -/
structure Sought (G : Fn → Prop) (N : List Nat) : Prop where
  fresh : ∀ n, n ∈ N → ¬ Hangs G (fun m => m ∈ N ∧ m < n) n
  first : 0 ∈ N ∨ ∀ g, G g → g 0 = 0
  kids : ∀ n, n ∈ N → ∀ d, d < 2 → 2 * n + d ∈ N ∨ Hangs G (fun m => m ∈ N ∧ m < 2 * n + d) (2 * n + d)

theorem Sought.upTo {N : List Nat} (h : Sought G N) (hG : Closed G) : ∀ b n, n ≤ b →
    Hangs G (fun m => m ∈ N ∧ m ≤ n) n
  | b, 0, _ => by
    rcases h.first with h1 | h1
    · exact .of ⟨h1, Nat.le_refl 0⟩
    · exact ⟨[], by simp, fun g hg => h1 g hg⟩
  | 0, n + 1, hb => by omega
  | b + 1, n + 1, hb => by
    obtain ⟨k, d, hd, e⟩ : ∃ k d, d < 2 ∧ n + 1 = 2 * k + d := ⟨(n + 1) / 2, (n + 1) % 2, by omega, by omega⟩
    rw [e]
    refine ((h.upTo hG b k (by omega)).half hG hd).trans ?_
    rintro m ⟨m', ⟨hm, hle⟩, rfl⟩
    rcases h.kids m' hm d hd with h1 | h1
    · exact .of ⟨h1, by omega⟩
    · exact h1.mono (fun q hq => ⟨hq.1, by omega⟩)

/-- The list has the new numbers, all of them, and no others. -/
theorem Sought.new {N : List Nat} (h : Sought G N) (hG : Closed G) (n : Nat) : n ∈ N ↔ New G n := by
  constructor
  · intro hn hh
    refine h.fresh n hn (hh.trans (fun m hm => (h.upTo hG m m (Nat.le_refl m)).mono (fun q hq => ⟨hq.1, by omega⟩)))
  · intro hh
    refine Classical.byContradiction (fun hn => hh ((h.upTo hG n n (Nat.le_refl n)).mono (fun q hq => ?_)))
    have : q ≠ n := fun e => hn (e ▸ hq.1)
    omega

/-- What is 0 at all new numbers up to n is 0 at n. -/
theorem Sought.zero {N : List Nat} (h : Sought G N) (hG : Closed G) {g : Fn} (hg : Span G g) (n : Nat)
    (hz : ∀ m, m ∈ N → m ≤ n → g m = 0) : g n = 0 :=
  (h.upTo hG n n (Nat.le_refl n)).zero hg (fun m hm => hz m hm.1 hm.2)

/-- Half of a new number is new. -/
theorem New.div {n : Nat} (h : New G n) (hG : Closed G) : New G (n / 2) := by
  intro hh
  by_cases h0 : n = 0
  · subst h0; exact h hh
  · refine h ?_
    have := hh.half hG (Nat.mod_lt n (by omega : 0 < 2))
    rw [Nat.div_add_mod] at this
    exact this.mono (fun m hm => by obtain ⟨m', h1, h2⟩ := hm; omega)

/-- The vector that is 1 at one place. -/
def unit (i : Nat) : Vec Nat := fun j => if j = i then 1 else 0

theorem span_units : ∀ (k : Nat) (v : Vec Nat), (∀ j, k ≤ j → v j = 0) → Span (· ∈ (List.range k).map unit) v
  | 0, v, h => Span.zero.congr (fun n => (h n (Nat.zero_le n)).symm)
  | k + 1, v, h => by
    have ih := span_units k (fun j => if j = k then 0 else v j) (fun j hj => by
      by_cases e : j = k
      · simp [e]
      · simp only [e, if_false]; exact h j (by omega))
    refine (Span.more (v k) (unit k) _ (List.mem_map.2 ⟨k, by simp, rfl⟩) (ih.mono (fun s hs => ?_))).congr (fun n => ?_)
    · obtain ⟨i, hi, rfl⟩ := List.mem_map.1 hs
      exact List.mem_map.2 ⟨i, by simp at hi ⊢; omega, rfl⟩
    · by_cases e : n = k
      · subst e; simp [unit]; grind
      · simp [unit, e]; grind

theorem free_width {F : List (Vec Nat)} (k : Nat) (h : Free (fun _ => False) F) (hz : ∀ v, v ∈ F → ∀ j, k ≤ j → v j = 0) :
    F.length ≤ k := by
  have := free_le F ((List.range k).map unit) (fun _ => False) h (fun f hf =>
    (span_units k f (hz f hf)).mono (fun s hs => .inr hs))
  simpa using this

/-- The values of some functions at a number, as a row. -/
def rowAt (P : List Fn) (n : Nat) : Vec Nat := fun i => (P[i]?.map (· n)).getD 0

/-- The values of a function at some numbers, as a row. -/
def rowOf (N : List Nat) (f : Fn) : Vec Nat := fun i => (N[i]?.map f).getD 0

theorem rowAt_zero (P : List Fn) (n j : Nat) (h : P.length ≤ j) : rowAt P n j = 0 := by
  simp [rowAt, List.getElem?_eq_none h]

theorem rowOf_zero (N : List Nat) (f : Fn) (j : Nat) (h : N.length ≤ j) : rowOf N f j = 0 := by
  simp [rowOf, List.getElem?_eq_none h]

/-- Rows hang on rows just as the values do. -/
theorem hangs_rows {P : List Fn} {n : Nat} : Hangs (· ∈ P) C n ↔ Span (fun s => ∃ m, C m ∧ s = rowAt P m) (rowAt P n) := by
  constructor
  · intro h
    rw [hangs_iff] at h
    by_cases hP : P = []
    · subst hP; exact Span.zero.congr (fun i => by simp [rowAt])
    · obtain ⟨l, hl, e⟩ := vals_ev h
      have : ∀ l : List (Rat × Nat), (∀ p, p ∈ l → C p.2) → Span (fun s => ∃ m, C m ∧ s = rowAt P m)
          (fun i => (P[i]?.map (fun g => ev l g)).getD 0) := by
        intro l
        induction l with
        | nil => intro _; exact Span.zero.congr (fun i => by cases P[i]? <;> simp [ev])
        | cons p l ih =>
          intro hl
          refine (Span.more p.1 (rowAt P p.2) _ ⟨p.2, hl p (by simp), rfl⟩ (ih (fun q hq => hl q (by simp [hq])))).congr
            (fun i => ?_)
          cases hi : P[i]? <;> simp [rowAt, hi, ev_cons]; grind
      refine (this l hl).congr (fun i => ?_)
      cases hi : P[i]? with
      | none => simp [rowAt, hi]
      | some g => simpa [rowAt, hi, Val] using (e ⟨g, List.mem_of_getElem? hi⟩).symm
  · intro h
    rw [hangs_iff]
    have key : ∀ g : {g // g ∈ P}, ∃ i, P[i]? = some g.1 := fun g => by
      obtain ⟨i, hi, e⟩ := List.getElem_of_mem g.2
      exact ⟨i, by rw [List.getElem?_eq_getElem hi, e]⟩
    have e : ∀ (m : Nat) (g : {g // g ∈ P}), rowAt P m (Classical.choose (key g)) = Val (· ∈ P) m g := fun m g => by
      simp [rowAt, Classical.choose_spec (key g), Val]
    refine (h.at (T := Vals (· ∈ P) C) (fun g => Classical.choose (key g)) ?_).congr (e n)
    rintro s ⟨m, hm, rfl⟩
    exact (Span.of ⟨m, hm, rfl⟩).congr (fun g => (e m g).symm)

/-- The functions are free just by their values at the new numbers. -/
theorem Sought.rows {N : List Nat} (h : Sought G N) (hG : Closed G) {A : Fn → Prop} (hA : ∀ a, A a → Span G a) {f : Fn}
    (hf : Span G f) : Span A f ↔ Span (fun s => ∃ a, A a ∧ s = rowOf N a) (rowOf N f) := by
  constructor
  · intro h'
    have key : ∀ v, Span A v → Span (fun s => ∃ a, A a ∧ s = rowOf N a) (rowOf N v) := by
      intro v hv
      induction hv with
      | zero => exact Span.zero.congr (fun i => by cases hi : N[i]? <;> simp [rowOf, hi])
      | more a s w hs _ ih =>
        refine (Span.more a (rowOf N s) _ ⟨s, hs, rfl⟩ ih).congr (fun i => ?_)
        cases hi : N[i]? <;> simp [rowOf, hi]; grind
    exact key f h'
  · intro h'
    have key : ∀ v, Span (fun s => ∃ a, A a ∧ s = rowOf N a) v → ∃ w, Span A w ∧ ∀ i, v i = rowOf N w i := by
      intro v hv
      induction hv with
      | zero => exact ⟨_, .zero, fun i => by cases hi : N[i]? <;> simp [rowOf, hi]⟩
      | more a s w hs _ ih =>
        obtain ⟨b, hb, rfl⟩ := hs
        obtain ⟨u, hu, e⟩ := ih
        refine ⟨_, .more a b u hb hu, fun i => ?_⟩
        show a * rowOf N b i + w i = _
        rw [e i]
        cases hi : N[i]? <;> simp [rowOf, hi]; grind
    obtain ⟨w, hw, e⟩ := key _ h'
    refine hw.congr (fun n => ?_)
    have hd : Span G (fun n => (-1) * w n + f n) := ((hw.trans hA).smul (-1)).add hf
    have := h.zero hG hd n (fun m hm _ => by
      obtain ⟨i, hi, e'⟩ := List.getElem_of_mem hm
      have := e i
      simp only [rowOf, List.getElem?_eq_getElem hi, Option.map_some, Option.getD_some, e'] at this
      grind)
    grind

theorem mem_split_lt {N A B : List Nat} {n : Nat} (h : N.Pairwise (· < ·)) (e : N = A ++ n :: B) (q : Nat) :
    q ∈ A → q ∈ N ∧ q < n := by
  subst e
  intro hq
  exact ⟨by simp [hq], (List.pairwise_append.1 h).2.2 q hq n (by simp)⟩

/-- There are as many new numbers as there are free functions that make all. -/
theorem Sought.many {N : List Nat} {P : List Fn} (h : Sought (· ∈ P) N) (hs : N.Pairwise (· < ·)) (hG : Closed (· ∈ P))
    (hP : Free (fun _ => False) P) : N.length = P.length := by
  apply Nat.le_antisymm
  · have : ((N.map (rowAt P)).length : Nat) ≤ P.length := by
      refine free_width _ ?_ ?_
      · intro A g B e hg
        obtain ⟨A', B', e1, e2, e3⟩ := List.map_eq_append_iff.1 e
        obtain ⟨p, B'', e4, e5, e6⟩ := List.map_eq_cons_iff.1 e3
        subst e4 e5
        refine h.fresh p (by simp [e1]) (hangs_rows.2 (hg.mono ?_))
        rintro s (hs' | hs')
        · exact hs'.elim
        · rw [← e2] at hs'
          obtain ⟨q, hq, rfl⟩ := List.mem_map.1 hs'
          exact ⟨q, mem_split_lt hs e1 q hq, rfl⟩
      · intro v hv j hj
        obtain ⟨n, _, rfl⟩ := List.mem_map.1 hv
        exact rowAt_zero P n j hj
    simpa using this
  · have : ((P.map (rowOf N)).length : Nat) ≤ N.length := by
      refine free_width _ ?_ ?_
      · intro A g B e hg
        obtain ⟨A', B', e1, e2, e3⟩ := List.map_eq_append_iff.1 e
        obtain ⟨p, B'', e4, e5, e6⟩ := List.map_eq_cons_iff.1 e3
        subst e4 e5
        refine hP A' p B'' e1 (Span.mono (fun s hs => .inr hs) ?_)
        refine (h.rows hG (A := (· ∈ A')) (fun a ha => .of (by simp [e1, ha])) (.of (by simp [e1]))).2 (hg.mono ?_)
        rintro s (hs' | hs')
        · exact hs'.elim
        · rw [← e2] at hs'
          obtain ⟨q, hq, rfl⟩ := List.mem_map.1 hs'
          exact ⟨q, hq, rfl⟩
      · intro v hv j hj
        obtain ⟨f, _, rfl⟩ := List.mem_map.1 hv
        exact rowOf_zero N f j hj
    simpa using this

end L2.Halves
end S_HalvesNumbers
section S_HalvesMade
/- From the search to the least rule; ranks of functions that are told by lines; echelons. Pure. -/
namespace L2.Halves

/-- The search for basic parts with the rows of each of them is the least rule. -/
theorem Searched.least {f : Fn} {P : List (Nat × Nat)} {rows : List (List Rat × List Rat)} {firsts : List Rat}
    (h : Searched f P) (hs : Sorted P) (many : rows.length = P.length)
    (wide : ∀ i (_ : i < rows.length), rows[i].1.length = P.length ∧ rows[i].2.length = P.length)
    (tells : ∀ i (_ : i < rows.length) (_ : i < P.length) n,
      part f P[i].1 P[i].2 (2 * n) = lin rows[i].1 (partsOf f P) n ∧
      part f P[i].1 P[i].2 (2 * n + 1) = lin rows[i].2 (partsOf f P) n)
    (starts : firsts = (partsOf f P).map (· 0)) : Least f P rows firsts :=
  { sorted := hs, basic := h.basic, free := h.free hs, many := many, wide := wide, tells := tells, starts := starts
    whole := by
      have := h.upTo 0 0 (by simp)
      rw [part_zero] at this
      refine this.mono ?_
      rintro s ⟨q, hq, _, rfl⟩
      exact List.mem_map.2 ⟨q, hq, rfl⟩ }

/-- All parts of a function are combinations of functions of a closed kind, if it is one. -/
theorem part_span {G : Fn → Prop} (hG : Closed G) {f : Fn} (hf : Span G f) : ∀ k r, r < 2 ^ k → Span G (part f k r)
  | 0, r, hr => by
    have : r = 0 := by simp at hr; omega
    subst this
    rw [part_zero]; exact hf
  | k + 1, r, hr => by
    obtain ⟨d, r', hd, hr', e⟩ : ∃ d r', d < 2 ∧ r' < 2 ^ k ∧ r = r' + d * 2 ^ k := by
      rw [Nat.pow_succ] at hr
      by_cases c : r < 2 ^ k
      · exact ⟨0, r, by omega, c, by omega⟩
      · exact ⟨1, r - 2 ^ k, by omega, by omega, by omega⟩
    subst e
    rw [← half_part]
    exact (part_span hG hf k r' hr').half d (fun s hs => hG s hs d hd)

theorem Span.closed {G : Fn → Prop} (hG : Closed G) {g : Fn} (hg : Span G g) (d : Nat) (hd : d < 2) : Span G (L2.Halves.half g d) :=
  hg.half d (fun s hs => hG s hs d hd)

/-- The rank is at most the number of functions of which all parts are combinations. -/
theorem Least.rank_le {f : Fn} {P : List (Nat × Nat)} {rows : List (List Rat × List Rat)} {firsts : List Rat}
    (h : Least f P rows firsts) (M : List Fn) (hM : ∀ k r, r < 2 ^ k → Span (· ∈ M) (part f k r)) :
    P.length ≤ M.length := by
  have := free_le (partsOf f P) M (fun _ => False) h.free (fun g hg => by
    obtain ⟨p, hp, rfl⟩ := List.mem_map.1 hg
    exact (hM p.1 p.2 ((h.basic p).1 hp).1).mono (fun s hs => .inr hs))
  simpa [partsOf] using this

/-- The parts of the least rule are closed. -/
theorem Least.closed {f : Fn} {P : List (Nat × Nat)} {rows : List (List Rat × List Rat)} {firsts : List Rat}
    (h : Least f P rows firsts) : Closed (· ∈ partsOf f P) := by
  intro g hg d hd
  obtain ⟨i, hi, e⟩ := List.getElem_of_mem hg
  have hi' : i < P.length := by simpa [partsOf] using hi
  have hr : i < rows.length := by rw [h.many]; exact hi'
  have eg : g = part f P[i].1 P[i].2 := by rw [← e]; simp [partsOf]
  rcases (by omega : d = 0 ∨ d = 1) with rfl | rfl
  · exact (lin_span rows[i].1 (partsOf f P)).congr (fun n => by
      rw [eg]; exact (h.tells i hr hi' n).1.symm)
  · exact (lin_span rows[i].2 (partsOf f P)).congr (fun n => by
      rw [eg]; exact (h.tells i hr hi' n).2.symm)

/-- Numbers that are new one by one for some functions are no more than the functions of which these are combinations. -/
theorem fresh_le {G : Fn → Prop} {N : List Nat} {M : List Fn} (hs : N.Pairwise (· < ·))
    (fresh : ∀ n, n ∈ N → ¬ Hangs G (fun m => m ∈ N ∧ m < n) n) (hM : ∀ g, G g → Span (· ∈ M) g) :
    N.length ≤ M.length := by
  have : ((N.map (rowAt M)).length : Nat) ≤ M.length := by
    refine free_width _ ?_ ?_
    · intro A g B e hg
      obtain ⟨A', B', e1, e2, e3⟩ := List.map_eq_append_iff.1 e
      obtain ⟨p, B'', e4, e5, e6⟩ := List.map_eq_cons_iff.1 e3
      subst e4 e5
      refine fresh p (by simp [e1]) (Hangs.span (hangs_rows.2 (hg.mono ?_)) hM)
      rintro s (hs' | hs')
      · exact hs'.elim
      · rw [← e2] at hs'
        obtain ⟨q, hq, rfl⟩ := List.mem_map.1 hs'
        exact ⟨q, mem_split_lt hs e1 q hq, rfl⟩
    · intro v hv j hj
      obtain ⟨n, _, rfl⟩ := List.mem_map.1 hv
      exact rowAt_zero M n j hj
  simpa using this

/-! ### Echelons -/

/-- Pairs of a place and a row that is not 0 there, while all later rows are. -/
def Ech : List (Nat × Vec Nat) → Prop
  | [] => True
  | (p, r) :: E => r p ≠ 0 ∧ (∀ q, q ∈ E → q.2 p = 0) ∧ Ech E

def rowsOf (E : List (Nat × Vec Nat)) : List (Vec Nat) := E.map (·.2)

/-- A multiple of v, not by 0, less a combination of the rows, that is 0 at all their places. -/
def Red (E : List (Nat × Vec Nat)) (v u : Vec Nat) : Prop :=
  (∃ k w, k ≠ 0 ∧ Span (· ∈ rowsOf E) w ∧ ∀ i, u i = k * v i + w i) ∧ ∀ q, q ∈ E → u q.1 = 0

theorem ech_zero : ∀ (E : List (Nat × Vec Nat)) (u : Vec Nat), Ech E → Span (· ∈ rowsOf E) u → (∀ q, q ∈ E → u q.1 = 0) →
    ∀ i, u i = 0
  | [], u, _, h, _ => (h.mono (T := fun _ => False) (fun s hs => by simp [rowsOf] at hs)).empty
  | (p, r) :: E, u, hE, h, hz => by
    obtain ⟨h1, h2, h3⟩ := hE
    obtain ⟨c, w, hw, e⟩ := (h.mono (T := fun x => x = r ∨ x ∈ rowsOf E) (fun s hs => by
      simpa [rowsOf] using hs)).cons
    have wp : w p = 0 := hw.zero_at p (fun s hs => by
      obtain ⟨q, hq, rfl⟩ := List.mem_map.1 hs
      exact h2 q hq)
    have up := hz (p, r) (by simp)
    have hc : c = 0 := by
      have := e p
      rw [up, wp] at this
      have h' : c * r p = 0 := by grind
      rcases Rat.mul_eq_zero.1 h' with h' | h'
      · exact h'
      · exact absurd h' h1
    have eu : ∀ n, u n = w n := fun n => by rw [e n, hc]; grind
    have hu : Span (· ∈ rowsOf E) u := hw.congr (fun n => (eu n).symm)
    exact ech_zero E u h3 hu (fun q hq => hz q (by simp [hq]))

theorem Red.iff {E : List (Nat × Vec Nat)} {v u : Vec Nat} (h : Red E v u) (hE : Ech E) :
    Span (· ∈ rowsOf E) v ↔ ∀ i, u i = 0 := by
  obtain ⟨⟨k, w, hk, hw, e⟩, hz⟩ := h
  constructor
  · intro hv
    exact ech_zero E u hE (((hv.smul k).add hw).congr (fun i => (e i).symm)) hz
  · intro h0
    exact (hw.smul (-1 / k)).congr (fun i => by
      have := e i
      rw [h0 i] at this
      grind)

theorem ech_snoc : ∀ (E : List (Nat × Vec Nat)) (p : Nat) (u : Vec Nat), Ech E → (∀ q, q ∈ E → u q.1 = 0) → u p ≠ 0 →
    Ech (E ++ [(p, u)])
  | [], p, u, _, _, hp => ⟨hp, by simp, trivial⟩
  | (q, r) :: E, p, u, hE, hz, hp => by
    obtain ⟨h1, h2, h3⟩ := hE
    refine ⟨h1, fun q' hq' => ?_, ech_snoc E p u h3 (fun q' hq' => hz q' (by simp [hq'])) hp⟩
    rcases List.mem_append.1 hq' with h | h
    · exact h2 q' h
    · simp at h; subst h; exact hz (q, r) (by simp)

theorem Red.snoc {E : List (Nat × Vec Nat)} {v u : Vec Nat} (h : Red E v u) (hE : Ech E) {p : Nat} (hp : u p ≠ 0) :
    Ech (E ++ [(p, u)]) ∧ ∀ x, Span (· ∈ rowsOf (E ++ [(p, u)])) x ↔ Span (fun s => s = v ∨ s ∈ rowsOf E) x := by
  refine ⟨ech_snoc E p u hE h.2 hp, fun x => ?_⟩
  obtain ⟨⟨k, w, hk, hw, e⟩, hz⟩ := h
  have em : ∀ s, s ∈ rowsOf (E ++ [(p, u)]) ↔ s ∈ rowsOf E ∨ s = u := fun s => by simp [rowsOf]
  constructor
  · intro hx
    refine hx.trans (fun s hs => ?_)
    rcases (em s).1 hs with h | h
    · exact .of (.inr h)
    · subst h
      exact (((Span.of (.inl rfl)).smul k).add (hw.mono (fun t ht => .inr ht))).congr (fun i => (e i).symm)
  · intro hx
    refine hx.trans (fun s hs => ?_)
    rcases hs with h | h
    · subst h
      have h1 : Span (· ∈ rowsOf (E ++ [(p, u)])) (fun i => (1 / k) * u i) := (Span.of ((em u).2 (.inr rfl))).smul _
      have h2 : Span (· ∈ rowsOf (E ++ [(p, u)])) (fun i => (-1 / k) * w i) :=
        (hw.mono (fun t ht => (em t).2 (.inl ht))).smul _
      exact (h1.add h2).congr (fun i => by have := e i; grind)
    · exact .of ((em s).2 (.inl h))

/-- One step of the way: cleared by the row at its place. -/
theorem Red.step {E : List (Nat × Vec Nat)} {p : Nat} {r v u : Vec Nat} {k l : Rat} (h : Red E v u) (hE : ∀ q, q ∈ E → r q.1 = 0)
    (hk : k ≠ 0) (u' : Vec Nat) (e : ∀ i, u' i = k * u i - l * r i) (hp : u' p = 0) : Red (E ++ [(p, r)]) v u' := by
  obtain ⟨⟨k', w, hk', hw, e'⟩, hz⟩ := h
  have em : ∀ s, s ∈ rowsOf (E ++ [(p, r)]) ↔ s ∈ rowsOf E ∨ s = r := fun s => by simp [rowsOf]
  refine ⟨⟨k * k', _, ?_, ((hw.mono (fun t ht => (em t).2 (.inl ht))).smul k).add
    ((Span.of ((em r).2 (.inr rfl))).smul (-l)), fun i => ?_⟩, fun q hq => ?_⟩
  · intro h0; rcases Rat.mul_eq_zero.1 h0 with h | h
    · exact hk h
    · exact hk' h
  · rw [e i, e' i]; grind
  · rcases List.mem_append.1 hq with h | h
    · rw [e, hz q h, hE q h]; grind
    · simp at h; subst h; exact hp

end L2.Halves
end S_HalvesMade
section S_HalvesRows
/- Sparse rows of integers as lists of pairs (index, integer) in the order of insertion: get, put, trimmed, cleared,
reduced, least index; and that they are echelon steps. Pure. -/
namespace L2.Halves

abbrev Row := List (Nat × Int)

/-- The integer at an index, 0 where there is none. -/
def get : Row → Nat → Int
  | [], _ => 0
  | (k, v) :: r, i => if k = i then v else get r i

def has (r : Row) (i : Nat) : Bool := r.any (fun p => p.1 == i)

/-- A store: in its place, or behind all others. -/
def put : Row → Nat → Int → Row
  | [], i, w => [(i, w)]
  | (k, v) :: r, i, w => if k = i then (k, w) :: r else (k, v) :: put r i w

def keys (r : Row) : List Nat := r.map (·.1)

/-- No index twice, no 0. -/
structure Clean (r : Row) : Prop where
  nodup : (keys r).Nodup
  nz : ∀ p, p ∈ r → p.2 ≠ 0

theorem get_of_not_mem : ∀ (r : Row) (i : Nat), i ∉ keys r → get r i = 0
  | [], _, _ => rfl
  | (k, v) :: r, i, h => by
    have h1 : ¬ i = k ∧ i ∉ keys r := by simpa [keys] using h
    simp only [get]
    rw [if_neg (fun e => h1.1 e.symm)]
    exact get_of_not_mem r i h1.2

theorem get_of_mem : ∀ (r : Row) (p : Nat × Int), (keys r).Nodup → p ∈ r → get r p.1 = p.2
  | [], _, _, h => by simp at h
  | (k, v) :: r, p, hn, h => by
    have hn' : k ∉ keys r ∧ (keys r).Nodup := by simpa [keys] using hn
    rcases List.mem_cons.1 h with e | h
    · subst e; simp [get]
    · have : k ≠ p.1 := fun e => hn'.1 (e ▸ List.mem_map.2 ⟨p, h, rfl⟩)
      simp only [get, if_neg this]
      exact get_of_mem r p hn'.2 h

theorem mem_keys_of_get {r : Row} {i : Nat} (h : get r i ≠ 0) : i ∈ keys r :=
  Classical.byContradiction (fun hn => h (get_of_not_mem r i hn))

theorem Clean.get_ne {r : Row} (h : Clean r) {i : Nat} : get r i ≠ 0 ↔ i ∈ keys r := by
  constructor
  · exact mem_keys_of_get
  · intro hi
    obtain ⟨p, hp, rfl⟩ := List.mem_map.1 hi
    rw [get_of_mem r p h.nodup hp]
    exact h.nz p hp

theorem has_iff (r : Row) (i : Nat) : has r i = true ↔ i ∈ keys r := by
  simp [has, keys]

theorem get_put : ∀ (r : Row) (i : Nat) (w : Int) (j : Nat), get (put r i w) j = if j = i then w else get r j
  | [], i, w, j => by
    simp only [put, get]
    by_cases e : i = j
    · simp [e]
    · simp [e, Ne.symm e]
  | (k, v) :: r, i, w, j => by
    simp only [put]
    by_cases e : k = i
    · subst e
      simp only [if_true, get]
      by_cases e' : k = j
      · simp [e']
      · simp [e', Ne.symm e']
    · simp only [if_neg e, get, get_put r i w j]
      by_cases e' : k = j
      · subst e'; simp [e]
      · simp [e']

theorem mem_keys_put : ∀ (r : Row) (i : Nat) (w : Int) (j : Nat), j ∈ keys (put r i w) ↔ j = i ∨ j ∈ keys r
  | [], i, w, j => by simp [put, keys]
  | (k, v) :: r, i, w, j => by
    simp only [put]
    by_cases e : k = i
    · subst e; simp [keys]
    · have := mem_keys_put r i w j
      simp only [if_neg e, keys, List.map_cons, List.mem_cons] at this ⊢
      rw [this]
      constructor <;> (intro h; rcases h with h | h | h <;> simp [h])

theorem nodup_put : ∀ (r : Row) (i : Nat) (w : Int), (keys r).Nodup → (keys (put r i w)).Nodup
  | [], i, w, _ => by simp [put, keys]
  | (k, v) :: r, i, w, h => by
    have h' : k ∉ keys r ∧ (keys r).Nodup := by simpa [keys] using h
    simp only [put]
    by_cases e : k = i
    · subst e; simp only [if_true]; simpa [keys] using h'
    · simp only [if_neg e]
      have h1 := nodup_put r i w h'.2
      have h2 : k ∉ keys (put r i w) := fun hk => by
        rcases (mem_keys_put r i w k).1 hk with h | h
        · exact e h
        · exact h'.1 h
      simpa [keys] using And.intro h2 h1

/-- The greatest common divisor of a row, as it is worked out: it ends at 1. -/
def common : Row → Nat → Nat
  | [], c => c
  | (_, v) :: r, c => if Int.gcd c v = 1 then 1 else common r (Int.gcd c v)

theorem common_dvd : ∀ (r : Row) (c : Nat), (common r c : Int) ∣ c ∧ ∀ p, p ∈ r → (common r c : Int) ∣ p.2
  | [], c => ⟨Int.dvd_refl _, by simp⟩
  | (k, v) :: r, c => by
    simp only [common]
    by_cases e : Int.gcd c v = 1
    · simp only [if_pos e]
      refine ⟨⟨(c : Int), by simp⟩, fun p _ => ⟨p.2, by simp⟩⟩
    · simp only [if_neg e]
      have ih := common_dvd r (Int.gcd c v)
      refine ⟨Int.dvd_trans ih.1 (Int.gcd_dvd_left ..), fun p hp => ?_⟩
      rcases List.mem_cons.1 hp with h | h
      · subst h; exact Int.dvd_trans ih.1 (Int.gcd_dvd_right ..)
      · exact ih.2 p h

theorem common_pos : ∀ (r : Row) (c : Nat), (0 < c ∨ ∃ p, p ∈ r ∧ p.2 ≠ 0) → 0 < common r c
  | [], c, h => by rcases h with h | ⟨p, hp, _⟩ <;> simp_all [common]
  | (k, v) :: r, c, h => by
    simp only [common]
    by_cases e : Int.gcd c v = 1
    · simp [e]
    · simp only [if_neg e]
      refine common_pos r _ ?_
      by_cases h0 : 0 < Int.gcd c v
      · exact .inl h0
      · right
        have h0' : Int.gcd (c : Int) v = 0 := by omega
        rw [Int.gcd_eq_zero_iff] at h0'
        rcases h with h | ⟨p, hp, hv⟩
        · omega
        · rcases List.mem_cons.1 hp with h | h
          · subst h; exact absurd h0'.2 hv
          · exact ⟨p, h, hv⟩

/-- Without zeros, divided by what divides all of it. -/
def trimmed (r : Row) : Row :=
  (r.filter (fun p => p.2 != 0)).map (fun p => (p.1, p.2 / (common r 0 : Int)))

theorem keys_trimmed_sub (r : Row) : (keys (trimmed r)).Sublist (keys r) := by
  simp only [keys, trimmed, List.map_map, Function.comp_def]
  exact (List.filter_sublist).map _

theorem get_map_filter (c : Int) : ∀ (r : Row) (i : Nat), (keys r).Nodup →
    get ((r.filter (fun p => p.2 != 0)).map (fun p => (p.1, p.2 / c))) i = get r i / c
  | [], i, _ => by simp [get]
  | (k, v) :: r, i, h => by
    have h' : k ∉ keys r ∧ (keys r).Nodup := by simpa [keys] using h
    have ih := get_map_filter c r i h'.2
    by_cases hv : v = 0
    · subst hv
      simp only [List.filter_cons, bne_self_eq_false, Bool.false_eq_true, if_false, ih, get]
      by_cases e : k = i
      · subst e; rw [if_pos rfl, get_of_not_mem r k h'.1]
      · rw [if_neg e]
    · have : (v != 0) = true := by simpa using hv
      simp only [List.filter_cons, this, if_true, List.map_cons, get]
      by_cases e : k = i
      · simp [e]
      · simp [e, ih]

theorem trimmed_spec (r : Row) (h : (keys r).Nodup) :
    Clean (trimmed r) ∧ (∃ c : Int, 0 < c ∧ ∀ i, c * get (trimmed r) i = get r i) := by
  by_cases hz : ∃ p, p ∈ r ∧ p.2 ≠ 0
  · have hp : 0 < common r 0 := common_pos r 0 (.inr hz)
    have hd := (common_dvd r 0).2
    refine ⟨⟨(keys_trimmed_sub r).nodup h, fun p hp' => ?_⟩, common r 0, by omega, fun i => ?_⟩
    · obtain ⟨q, hq, rfl⟩ := List.mem_map.1 hp'
      have hq' := List.mem_filter.1 hq
      have hq2 : q.2 ≠ 0 := by simpa using hq'.2
      obtain ⟨t, ht⟩ := hd q hq'.1
      have hc : (common r 0 : Int) ≠ 0 := by omega
      show q.2 / (common r 0 : Int) ≠ 0
      rw [ht, Int.mul_ediv_cancel_left _ hc]
      intro h0; rw [h0] at ht; simp at ht; exact hq2 ht
    · show (common r 0 : Int) * get ((r.filter (fun p => p.2 != 0)).map (fun p => (p.1, p.2 / (common r 0 : Int)))) i = _
      rw [get_map_filter _ _ _ h]
      by_cases hi : i ∈ keys r
      · obtain ⟨p, hp', rfl⟩ := List.mem_map.1 hi
        rw [get_of_mem r p h hp']
        exact Int.mul_ediv_cancel' (hd p hp')
      · rw [get_of_not_mem r i hi]; simp
  · have hz' : ∀ p, p ∈ r → p.2 = 0 := fun p hp => Classical.byContradiction (fun hn => hz ⟨p, hp, hn⟩)
    have e : trimmed r = [] := by
      simp only [trimmed, List.map_eq_nil_iff, List.filter_eq_nil_iff]
      intro p hp; simp [hz' p hp]
    rw [e]
    refine ⟨⟨by simp [keys], by simp⟩, 1, by decide, fun i => ?_⟩
    by_cases hi : i ∈ keys r
    · obtain ⟨p, hp', rfl⟩ := List.mem_map.1 hi
      rw [get_of_mem r p h hp', hz' p hp']; simp [get]
    · rw [get_of_not_mem r i hi]; simp [get]

/-- The first loop: all items times a number. -/
def timesRow (t : Int) (r : Row) : Row := r.map (fun p => (p.1, t * p.2))

theorem keys_times (t : Int) (r : Row) : keys (timesRow t r) = keys r := by simp [keys, timesRow]

theorem get_times (t : Int) : ∀ (r : Row) (i : Nat), get (timesRow t r) i = t * get r i
  | [], i => by simp [timesRow, get]
  | (k, v) :: r, i => by
    have := get_times t r i
    simp only [timesRow, List.map_cons, get] at this ⊢
    by_cases e : k = i
    · simp [e]
    · simp [e, this]

/-- The second loop: less so many times the other row. -/
def lessRow (m : Int) (mixed : Row) : Row → Row
  | [] => mixed
  | (k, v) :: r => lessRow m (put mixed k (get mixed k - m * v)) r

theorem nodup_less (m : Int) : ∀ (r mixed : Row), (keys mixed).Nodup → (keys (lessRow m mixed r)).Nodup
  | [], _, h => h
  | (k, v) :: r, mixed, h => nodup_less m r _ (nodup_put mixed k _ h)

theorem get_less (m : Int) : ∀ (r mixed : Row) (i : Nat), (keys r).Nodup →
    get (lessRow m mixed r) i = get mixed i - m * get r i
  | [], mixed, i, _ => by simp [lessRow, get]
  | (k, v) :: r, mixed, i, h => by
    have h' : k ∉ keys r ∧ (keys r).Nodup := by simpa [keys] using h
    simp only [lessRow, get_less m r _ i h'.2, get_put, get]
    by_cases e : k = i
    · subst e; rw [if_pos rfl, if_pos rfl, get_of_not_mem r k h'.1]; simp
    · rw [if_neg (Ne.symm e), if_neg e]

/-- The sign by which the factor of the row comes out above 0. -/
def clearSign (row other : Row) (p : Nat) : Int := if get other p / (Int.gcd (get row p) (get other p) : Int) < 0 then -1 else 1

/-- A multiple of the row less one of the other, so that it is 0 at the pivot. -/
def cleared (row other : Row) (p : Nat) : Row :=
  let c : Int := Int.gcd (get row p) (get other p)
  trimmed (lessRow (clearSign row other p * (get row p / c)) (timesRow (clearSign row other p * (get other p / c)) row) other)

/-- The row as a vector of fractions. -/
def val (r : Row) : Vec Nat := fun i => (get r i : Rat)

theorem val_zero {r : Row} {i : Nat} : val r i = 0 ↔ get r i = 0 := by
  simp [val, Rat.intCast_eq_zero_iff]

theorem cleared_spec {row other : Row} (h1 : Clean row) (h2 : Clean other) (p : Nat) (hp : get row p ≠ 0)
    (hq : get other p ≠ 0) :
    Clean (cleared row other p) ∧ get (cleared row other p) p = 0 ∧
    ∃ k l : Rat, k ≠ 0 ∧ ∀ i, val (cleared row other p) i = k * val row i - l * val other i := by
  have hc : (0 : Int) < Int.gcd (get row p) (get other p) := by
    have : Int.gcd (get row p) (get other p) ≠ 0 := by
      intro h; rw [Int.gcd_eq_zero_iff] at h; exact hp h.1
    omega
  generalize hcc : (Int.gcd (get row p) (get other p) : Int) = c at hc
  obtain ⟨s, hs⟩ : c ∣ get row p := hcc ▸ Int.gcd_dvd_left ..
  obtain ⟨t, ht⟩ : c ∣ get other p := hcc ▸ Int.gcd_dvd_right ..
  have es : get row p / c = s := by rw [hs, Int.mul_ediv_cancel_left _ (by omega)]
  have et : get other p / c = t := by rw [ht, Int.mul_ediv_cancel_left _ (by omega)]
  have hg : ∃ g : Int, clearSign row other p = g ∧ (g = 1 ∨ g = -1) := by
    refine ⟨_, rfl, ?_⟩
    unfold clearSign
    split
    · exact .inr rfl
    · exact .inl rfl
  obtain ⟨g, eg, hg⟩ := hg
  have hn : (keys (lessRow (g * s) (timesRow (g * t) row) other)).Nodup :=
    nodup_less (g * s) other _ (by rw [keys_times]; exact h1.nodup)
  obtain ⟨hcl, d, hd, e⟩ := trimmed_spec _ hn
  have ecl : cleared row other p = trimmed (lessRow (g * s) (timesRow (g * t) row) other) := by
    simp only [cleared, hcc, es, et, eg]
  have e' : ∀ i, d * get (cleared row other p) i = g * t * get row i - g * s * get other i := fun i => by
    rw [ecl, e i, get_less (g * s) other _ i h2.nodup, get_times]
  have ht0 : t ≠ 0 := by intro h; rw [h] at ht; simp at ht; exact hq ht
  have hgt : g * t ≠ 0 := by rcases hg with h | h <;> (rw [h]; omega)
  refine ⟨ecl ▸ hcl, ?_, ((g * t : Int) : Rat) / d, ((g * s : Int) : Rat) / d, ?_, fun i => ?_⟩
  · have := e' p
    rw [hs, ht] at this
    have h0 : d * get (cleared row other p) p = 0 := by rw [this]; grind
    rcases Int.mul_eq_zero.1 h0 with h | h
    · omega
    · exact h
  · have h1 : ((g * t : Int) : Rat) ≠ 0 := fun h => hgt (Rat.intCast_eq_zero_iff.1 h)
    have h2 : (d : Rat) ≠ 0 := by simpa [Rat.intCast_eq_zero_iff] using (show d ≠ 0 by omega)
    intro h; apply h1; grind
  · have := congrArg (fun x : Int => (x : Rat)) (e' i)
    simp only [Rat.intCast_mul, Rat.intCast_sub] at this
    have h2 : (d : Rat) ≠ 0 := by simpa [Rat.intCast_eq_zero_iff] using (show d ≠ 0 by omega)
    show (get (cleared row other p) i : Rat) = _ * (get row i : Rat) - _ * (get other i : Rat)
    simp only [Rat.intCast_mul]
    grind

/-- By all rows of an echelon, one behind the other. -/
def reduced (row : Row) : List (Nat × Row) → Row
  | [] => row
  | (p, r) :: E => reduced (if has row p then cleared row r p else row) E

def vals (E : List (Nat × Row)) : List (Nat × Vec Nat) := E.map (fun q => (q.1, val q.2))

theorem ech_head {p : Nat} {r : Vec Nat} {E : List (Nat × Vec Nat)} (h : Ech ((p, r) :: E)) : r p ≠ 0 := h.1

theorem ech_later : ∀ (A : List (Nat × Vec Nat)) (q : Nat × Vec Nat) (B : List (Nat × Vec Nat)), Ech (A ++ q :: B) →
    (∀ a, a ∈ A → q.2 a.1 = 0) ∧ q.2 q.1 ≠ 0
  | [], q, B, h => ⟨by simp, h.1⟩
  | (p, r) :: A, q, B, h => by
    obtain ⟨_, h2, h3⟩ := h
    have ih := ech_later A q B h3
    refine ⟨fun a ha => ?_, ih.2⟩
    rcases List.mem_cons.1 ha with e | e
    · subst e; exact h2 q (by simp)
    · exact ih.1 a e

theorem reduced_aux : ∀ (E A : List (Nat × Row)) (row0 : Vec Nat) (row : Row), Ech (vals (A ++ E)) →
    (∀ q, q ∈ A ++ E → Clean q.2) → Clean row → Red (vals A) row0 (val row) →
    Clean (reduced row E) ∧ Red (vals (A ++ E)) row0 (val (reduced row E))
  | [], A, row0, row, _, _, hr, h => by rw [List.append_nil]; exact ⟨hr, h⟩
  | (p, r) :: E, A, row0, row, hE, hc, hr, h => by
    have hl := ech_later (vals A) (p, val r) (vals E) (by simpa [vals] using hE)
    have hz : ∀ q, q ∈ vals A → val r q.1 = 0 := hl.1
    have hrp : get r p ≠ 0 := fun e => hl.2 (val_zero.2 e)
    have hcr : Clean r := hc (p, r) (by simp)
    have ea : vals (A ++ [(p, r)]) = vals A ++ [(p, val r)] := by simp [vals]
    simp only [reduced]
    have fin : ∀ row' : Row, Clean row' → Red (vals (A ++ [(p, r)])) row0 (val row') →
        Clean (reduced row' E) ∧ Red (vals (A ++ (p, r) :: E)) row0 (val (reduced row' E)) := fun row' h1 h2 => by
      have := reduced_aux E (A ++ [(p, r)]) row0 row' (by simpa using hE) (by simpa using hc) h1 h2
      simpa using this
    by_cases hh : has row p = true
    · rw [if_pos hh]
      have hrow : get row p ≠ 0 := hr.get_ne.2 ((has_iff row p).1 hh)
      obtain ⟨c1, c2, k, l, hk, e⟩ := cleared_spec hr hcr p hrow hrp
      exact fin _ c1 (ea ▸ h.step hz hk _ e (val_zero.2 c2))
    · rw [if_neg hh]
      have hrow : get row p = 0 := Classical.byContradiction (fun hn => hh ((has_iff row p).2 (hr.get_ne.1 hn)))
      refine fin _ hr (ea ▸ h.step (k := 1) (l := 0) hz (by decide) _ (fun i => by grind) (val_zero.2 hrow))

theorem red_nil (v : Vec Nat) : Red [] v v :=
  ⟨⟨1, _, by decide, .zero, fun i => by grind⟩, by simp⟩

/-- What comes out by an echelon: 0 just for what hangs on its rows. -/
theorem reduced_spec {E : List (Nat × Row)} {row : Row} (hE : Ech (vals E)) (hc : ∀ q, q ∈ E → Clean q.2) (hr : Clean row) :
    Clean (reduced row E) ∧ Red (vals E) (val row) (val (reduced row E)) :=
  reduced_aux E [] (val row) row hE hc hr (red_nil _)

/-- The least index below the width, as it is sought. -/
def leastFrom (r : Row) : Nat → Nat → Option Nat
  | _, 0 => none
  | at', m + 1 => if has r at' then some at' else leastFrom r (at' + 1) m

def leastIndex (r : Row) (width : Nat) : Option Nat := leastFrom r 0 width

theorem leastFrom_spec (r : Row) : ∀ (m a : Nat),
    (leastFrom r a m = none → ∀ i, a ≤ i → i < a + m → has r i = false) ∧
    (∀ p, leastFrom r a m = some p → a ≤ p ∧ p < a + m ∧ has r p = true ∧ ∀ i, a ≤ i → i < p → has r i = false)
  | 0, a => ⟨fun _ i h1 h2 => by omega, fun p h => by simp [leastFrom] at h⟩
  | m + 1, a => by
    have ih := leastFrom_spec r m (a + 1)
    simp only [leastFrom]
    by_cases h : has r a = true
    · simp only [if_pos h]
      refine ⟨fun h' => by simp at h', fun p hp => ?_⟩
      simp at hp; subst hp
      exact ⟨Nat.le_refl _, by omega, h, fun i h1 h2 => by omega⟩
    · simp only [if_neg h]
      refine ⟨fun h' i h1 h2 => ?_, fun p hp => ?_⟩
      · by_cases e : i = a
        · subst e; simpa using h
        · exact ih.1 h' i (by omega) (by omega)
      · obtain ⟨h1, h2, h3, h4⟩ := ih.2 p hp
        refine ⟨by omega, by omega, h3, fun i h5 h6 => ?_⟩
        by_cases e : i = a
        · subst e; simpa using h
        · exact h4 i (by omega) h6

/-- The row of a list of integers. -/
def sparseFrom : Nat → List Int → Row
  | _, [] => []
  | i, v :: vs => if v ≠ 0 then (i, v) :: sparseFrom (i + 1) vs else sparseFrom (i + 1) vs

def sparse (vs : List Int) : Row := sparseFrom 0 vs

theorem sparseFrom_keys : ∀ (vs : List Int) (i k : Nat), k ∈ keys (sparseFrom i vs) → i ≤ k ∧ k < i + vs.length
  | [], i, k, h => by simp [sparseFrom, keys] at h
  | v :: vs, i, k, h => by
    simp only [sparseFrom] at h
    by_cases hv : v ≠ 0
    · rw [if_pos hv] at h
      simp only [keys, List.map_cons, List.mem_cons] at h
      rcases h with h | h
      · simp; omega
      · have := sparseFrom_keys vs (i + 1) k h; simp; omega
    · rw [if_neg hv] at h
      have := sparseFrom_keys vs (i + 1) k h; simp; omega

theorem sparseFrom_clean : ∀ (vs : List Int) (i : Nat), Clean (sparseFrom i vs)
  | [], i => ⟨by simp [sparseFrom, keys], by simp [sparseFrom]⟩
  | v :: vs, i => by
    have ih := sparseFrom_clean vs (i + 1)
    simp only [sparseFrom]
    by_cases hv : v ≠ 0
    · rw [if_pos hv]
      refine ⟨?_, fun p hp => ?_⟩
      · have : i ∉ keys (sparseFrom (i + 1) vs) := fun h => by
          have := sparseFrom_keys vs (i + 1) i h; omega
        simpa [keys] using And.intro this ih.nodup
      · rcases List.mem_cons.1 hp with e | e
        · subst e; exact hv
        · exact ih.nz p e
    · rw [if_neg hv]; exact ih

theorem sparseFrom_get : ∀ (vs : List Int) (i j : Nat), get (sparseFrom i vs) (i + j) = (vs[j]?).getD 0
  | [], i, j => by simp [sparseFrom, get]
  | v :: vs, i, 0 => by
    simp only [sparseFrom]
    by_cases hv : v ≠ 0
    · rw [if_pos hv]; simp [get]
    · rw [if_neg hv]
      have : i ∉ keys (sparseFrom (i + 1) vs) := fun h => by
        have := sparseFrom_keys vs (i + 1) i h; omega
      show get (sparseFrom (i + 1) vs) i = _
      rw [get_of_not_mem _ _ this]
      have : v = 0 := Classical.byContradiction hv
      simp [this]
  | v :: vs, i, j + 1 => by
    have ih := sparseFrom_get vs (i + 1) j
    simp only [sparseFrom]
    have e : i + 1 + j = i + (j + 1) := by omega
    rw [e] at ih
    by_cases hv : v ≠ 0
    · rw [if_pos hv]
      simp only [get]
      rw [if_neg (by omega), ih]; simp
    · rw [if_neg hv, ih]; simp

theorem sparse_get (vs : List Int) (j : Nat) : get (sparse vs) j = (vs[j]?).getD 0 := by
  have := sparseFrom_get vs 0 j
  rwa [Nat.zero_add] at this

end L2.Halves
end S_HalvesRows
section S_HalvesSeek
/- Lines that are told by one another, their mixes, and the search for new numbers. Pure. -/
namespace L2.Halves

abbrev Mix := Row × Int

structure Lines where
  halves : List (Mix × Mix)
  starts : List Int

def sumOf (r : Row) (vs : List Int) : Int := (r.map (fun p => p.2 * vs.getD p.1 0)).sum

def valueOf (m : Mix) (vs : List Int) : Int := sumOf m.1 vs / m.2

def pick (h : Mix × Mix) (d : Nat) : Mix := if d = 0 then h.1 else h.2

def nextValues (L : Lines) (vs : List Int) (d : Nat) : List Int := L.halves.map (fun h => valueOf (pick h d) vs)

/-- A mix of so many lines. -/
structure MixOk (w : Nat) (m : Mix) : Prop where
  clean : Clean m.1
  small : ∀ i, i ∈ keys m.1 → i < w
  pos : 0 < m.2

/-- These lists are the values of the lines. -/
structure Sem (L : Lines) (F : Nat → List Int) : Prop where
  many : L.halves.length = L.starts.length
  wide : ∀ n, (F n).length = L.starts.length
  zero : F 0 = L.starts
  ok : ∀ h, h ∈ L.halves → MixOk L.starts.length h.1 ∧ MixOk L.starts.length h.2
  exact : ∀ i (hi : i < L.halves.length) n d, d < 2 →
    sumOf (pick L.halves[i] d).1 (F n) = (pick L.halves[i] d).2 * (F (2 * n + d)).getD i 0

theorem pick_ok {L : Lines} {F : Nat → List Int} (h : Sem L F) {q : Mix × Mix} (hq : q ∈ L.halves) (d : Nat) :
    MixOk L.starts.length (pick q d) := by
  unfold pick
  by_cases e : d = 0
  · rw [if_pos e]; exact (h.ok q hq).1
  · rw [if_neg e]; exact (h.ok q hq).2

theorem Sem.next {L : Lines} {F : Nat → List Int} (h : Sem L F) (n d : Nat) (hd : d < 2) :
    nextValues L (F n) d = F (2 * n + d) := by
  refine List.ext_getElem (by simp [nextValues, h.wide, h.many]) (fun i h1 h2 => ?_)
  have hi : i < L.halves.length := by simpa [nextValues] using h1
  have hp := (pick_ok h (List.getElem_mem hi) d).pos
  have e := h.exact i hi n d hd
  simp only [nextValues, List.getElem_map, valueOf, e]
  rw [Int.mul_ediv_cancel_left _ (by omega)]
  simp [List.getD, List.getElem?_eq_getElem h2]

/-- The function of the factors of lines. -/
def fnRow (F : Nat → List Int) (r : Row) : Fn := fun n => (sumOf r (F n) : Rat)

/-- The function of a mix. -/
def fnMix (F : Nat → List Int) (m : Mix) : Fn := fun n => (sumOf m.1 (F n) : Rat) / (m.2 : Rat)

/-- A line. -/
def line (F : Nat → List Int) (i : Nat) : Fn := fun n => ((F n).getD i 0 : Rat)

theorem sumOf_nil (vs : List Int) : sumOf [] vs = 0 := rfl

theorem sumOf_cons (p : Nat × Int) (r : Row) (vs : List Int) : sumOf (p :: r) vs = p.2 * vs.getD p.1 0 + sumOf r vs := by
  simp [sumOf]

theorem fnRow_span (F : Nat → List Int) (w : Nat) : ∀ r : Row, (∀ i, i ∈ keys r → i < w) →
    Span (· ∈ (List.range w).map (line F)) (fnRow F r)
  | [], _ => Span.zero.congr (fun n => by simp [fnRow, sumOf])
  | p :: r, h => by
    refine (Span.more (p.2 : Rat) (line F p.1) _ (List.mem_map.2 ⟨p.1, by simpa using h p.1 (by simp [keys]), rfl⟩)
      (fnRow_span F w r (fun i hi => h i (by simp [keys] at hi ⊢; exact .inr hi)))).congr (fun n => ?_)
    simp only [fnRow, line, sumOf_cons, Rat.intCast_add, Rat.intCast_mul]

/-- The search: fuel, echelon, what is found, what is waiting. -/
def seek (L : Lines) (rows : List Row) (most : Nat) : Nat → List (Nat × Row) → List (Nat × List Int) →
    List (Nat × List Int) → Option (List (Nat × List Int))
  | 0, _, found, _ => some found
  | _ + 1, _, found, [] => some found
  | fuel + 1, E, found, (n, vs) :: rest =>
    let u := reduced (sparse (rows.map (fun r => sumOf r vs))) E
    match leastIndex u rows.length with
    | none => seek L rows most fuel E found rest
    | some p =>
      if found.length = most then none
      else seek L rows most fuel (E ++ [(p, u)]) (found ++ [(n, vs)])
        (rest ++ ((if 0 < n then [(2 * n, nextValues L vs 0)] else []) ++ [(2 * n + 1, nextValues L vs 1)]))

def nums (l : List (Nat × List Int)) : List Nat := l.map (·.1)

theorem nums_append (a b : List (Nat × List Int)) : nums (a ++ b) = nums a ++ nums b := by simp [nums]

theorem val_sparse (F : Nat → List Int) (rows : List Row) (n : Nat) :
    val (sparse (rows.map (fun r => sumOf r (F n)))) = rowAt (rows.map (fnRow F)) n := by
  funext i
  simp only [val, sparse_get, rowAt, List.getElem?_map]
  cases rows[i]? <;> simp [fnRow]

structure SeekInv (P : List Fn) (F : Nat → List Int) (E : List (Nat × Row)) (found rest : List (Nat × List Int)) :
    Prop where
  ech : Ech (vals E)
  clean : ∀ q, q ∈ E → Clean q.2
  span : ∀ x, Span (· ∈ rowsOf (vals E)) x ↔ Span (fun s => ∃ m, m ∈ nums found ∧ s = rowAt P m) x
  sorted : (nums found).Pairwise (· < ·)
  fresh : ∀ n, n ∈ nums found → ¬ Hangs (· ∈ P) (fun m => m ∈ nums found ∧ m < n) n
  vsOk : ∀ q, q ∈ found ++ rest → q.2 = F q.1
  restSorted : (nums rest).Pairwise (· < ·)
  above : ∀ m, m ∈ nums found → ∀ x, x ∈ nums rest → m < x
  near : ∀ x, x ∈ nums rest → (x = 0 ∧ found = []) ∨ ∃ m, m ∈ nums found ∧ x ≤ 2 * m + 1
  first : 0 ∈ nums found ∨ 0 ∈ nums rest ∨ ∀ g, g ∈ P → g 0 = 0
  kids : ∀ n, n ∈ nums found → ∀ d, d < 2 → 2 * n + d ∈ nums found ∨ 2 * n + d ∈ nums rest ∨
    Hangs (· ∈ P) (fun m => m ∈ nums found ∧ m < 2 * n + d) (2 * n + d)

theorem seek_start (P : List Fn) (F : Nat → List Int) (vs : List Int) (h : vs = F 0) : SeekInv P F [] [] [(0, vs)] :=
  { ech := trivial, clean := by simp, sorted := by simp [nums], fresh := by simp [nums]
    span := fun x => ⟨fun hx => hx.mono (fun s hs => by simp [rowsOf, vals] at hs), fun hx => hx.mono (fun s hs => by simp [nums] at hs)⟩
    vsOk := by simp [h], restSorted := by simp [nums], above := by simp [nums]
    near := fun x hx => .inl ⟨by simpa [nums] using hx, rfl⟩
    first := by simp [nums], kids := by simp [nums] }

/-- What the next number gives. -/
theorem SeekInv.head {F : Nat → List Int} {rows : List Row} {E : List (Nat × Row)} {found rest : List (Nat × List Int)}
    {n : Nat} {vs : List Int} (h : SeekInv (rows.map (fnRow F)) F E found ((n, vs) :: rest)) {u : Row}
    (hu : u = reduced (sparse (rows.map (fun r => sumOf r vs))) E) :
    Clean u ∧ Red (vals E) (rowAt (rows.map (fnRow F)) n) (val u) ∧
    (leastIndex u rows.length = none → Hangs (· ∈ rows.map (fnRow F)) (· ∈ nums found) n) ∧
    (∀ p, leastIndex u rows.length = some p → val u p ≠ 0 ∧ ¬ Hangs (· ∈ rows.map (fnRow F)) (· ∈ nums found) n) := by
  have ev : vs = F n := h.vsOk (n, vs) (by simp)
  subst ev
  have hs := reduced_spec (E := E) (row := sparse (rows.map (fun r => sumOf r (F n)))) h.ech h.clean (sparseFrom_clean _ _)
  rw [← hu, val_sparse] at hs
  obtain ⟨hc, hr⟩ := hs
  have hiff := hr.iff h.ech
  have hh : Hangs (· ∈ rows.map (fnRow F)) (· ∈ nums found) n ↔ ∀ i, val u i = 0 := by
    rw [hangs_rows, ← h.span]; exact hiff
  have hz : ∀ i, rows.length ≤ i → val u i = 0 := by
    intro i hi
    obtain ⟨⟨k, w, _, hw, e⟩, _⟩ := hr
    have hw' := (h.span w).1 hw
    have w0 : w i = 0 := hw'.zero_at i (fun s hs => by
      obtain ⟨m, _, rfl⟩ := hs
      exact rowAt_zero _ m i (by simpa using hi))
    rw [e i, w0, rowAt_zero _ n i (by simpa using hi)]; grind
  have hl := leastFrom_spec u rows.length 0
  refine ⟨hc, hr, fun hn => hh.2 (fun i => ?_), fun p hp => ?_⟩
  · by_cases hi : rows.length ≤ i
    · exact hz i hi
    · have := hl.1 hn i (Nat.zero_le i) (by omega)
      refine val_zero.2 (get_of_not_mem u i (fun hm => ?_))
      rw [(has_iff u i).2 hm] at this; cases this
  · have := (hl.2 p hp).2.2.1
    have hne : val u p ≠ 0 := fun e => (hc.get_ne.2 ((has_iff u p).1 this)) (val_zero.1 e)
    exact ⟨hne, fun hg => hne (hh.1 hg p)⟩

theorem SeekInv.skip {P : List Fn} {F : Nat → List Int} {E : List (Nat × Row)} {found rest : List (Nat × List Int)}
    {n : Nat} {vs : List Int} (h : SeekInv P F E found ((n, vs) :: rest)) (hn : Hangs (· ∈ P) (· ∈ nums found) n) :
    SeekInv P F E found rest := by
  have hab := h.above
  refine { h with vsOk := ?_, restSorted := ?_, above := ?_, near := ?_, first := ?_, kids := ?_ }
  · intro q hq
    refine h.vsOk q ?_
    rcases List.mem_append.1 hq with h1 | h1
    · simp [h1]
    · simp [h1]
  · have := h.restSorted
    simp only [nums, List.map_cons, List.pairwise_cons] at this
    exact this.2
  · intro m hm x hx; exact hab m hm x (by simp [nums] at hx ⊢; exact .inr hx)
  · intro x hx; exact h.near x (by simp [nums] at hx ⊢; exact .inr hx)
  · rcases h.first with h1 | h1 | h1
    · exact .inl h1
    · by_cases e : n = 0
      · subst e
        right; right
        intro g hg
        obtain ⟨l, hl, e'⟩ := hn
        rw [e' g hg]
        have : l = [] := by
          cases l with
          | nil => rfl
          | cons p l =>
            have := hab p.2 (hl p (by simp)) 0 (by simp [nums])
            omega
        rw [this]; rfl
      · right; left
        simp only [nums, List.map_cons, List.mem_cons] at h1
        rcases h1 with h1 | h1
        · exact absurd h1.symm e
        · exact h1
    · exact .inr (.inr h1)
  · intro m hm d hd
    rcases h.kids m hm d hd with h1 | h1 | h1
    · exact .inl h1
    · simp only [nums, List.map_cons, List.mem_cons] at h1
      rcases h1 with h1 | h1
      · right; right
        have h1' : 2 * m + d = n := h1
        rw [h1']
        exact hn.mono (fun q hq => ⟨hq, hab q hq n (by simp [nums])⟩)
      · exact .inr (.inl h1)
    · exact .inr (.inr h1)

theorem SeekInv.newFresh {P : List Fn} {F : Nat → List Int} {E : List (Nat × Row)} {found rest : List (Nat × List Int)}
    {n : Nat} {vs : List Int} (h : SeekInv P F E found ((n, vs) :: rest)) (hn : ¬ Hangs (· ∈ P) (· ∈ nums found) n) :
    (nums (found ++ [(n, vs)])).Pairwise (· < ·) ∧
    ∀ m, m ∈ nums (found ++ [(n, vs)]) → ¬ Hangs (· ∈ P) (fun q => q ∈ nums (found ++ [(n, vs)]) ∧ q < m) m := by
  have hab : ∀ m, m ∈ nums found → m < n := fun m hm => h.above m hm n (by simp [nums])
  have en : nums (found ++ [(n, vs)]) = nums found ++ [n] := by simp [nums]
  rw [en]
  refine ⟨List.pairwise_append.2 ⟨h.sorted, by simp, fun a ha b hb => ?_⟩, fun m hm hg => ?_⟩
  · simp at hb; subst hb; exact hab a ha
  · rcases List.mem_append.1 hm with h1 | h1
    · refine h.fresh m h1 (hg.mono (fun q hq => ⟨?_, hq.2⟩))
      rcases List.mem_append.1 hq.1 with h2 | h2
      · exact h2
      · simp at h2; have := hab m h1; omega
    · simp at h1; subst h1
      refine hn (hg.mono (fun q hq => ?_))
      rcases List.mem_append.1 hq.1 with h2 | h2
      · exact h2
      · simp at h2; omega

theorem SeekInv.take {L : Lines} {F : Nat → List Int} (hL : Sem L F) {P : List Fn} {E : List (Nat × Row)}
    {found rest : List (Nat × List Int)} {n : Nat} {vs : List Int} (h : SeekInv P F E found ((n, vs) :: rest)) {u : Row} {p : Nat}
    (hc : Clean u) (hr : Red (vals E) (rowAt P n) (val u)) (hp : val u p ≠ 0) (hn : ¬ Hangs (· ∈ P) (· ∈ nums found) n) :
    SeekInv P F (E ++ [(p, u)]) (found ++ [(n, vs)])
      (rest ++ ((if 0 < n then [(2 * n, nextValues L vs 0)] else []) ++ [(2 * n + 1, nextValues L vs 1)])) := by
  have ev : vs = F n := h.vsOk (n, vs) (by simp)
  have hab : ∀ m, m ∈ nums found → m < n := fun m hm => h.above m hm n (by simp [nums])
  have en : nums (found ++ [(n, vs)]) = nums found ++ [n] := by simp [nums]
  have hrest : ∀ x, x ∈ nums rest → n < x := fun x hx => by
    have := h.restSorted
    simp only [nums, List.map_cons, List.pairwise_cons] at this
    exact this.1 x hx
  have hnear : ∀ x, x ∈ nums rest → x < 2 * n ∨ x ≤ 1 ∧ n = 0 := fun x hx => by
    rcases h.near x (by simp [nums] at hx ⊢; exact .inr hx) with ⟨h1, _⟩ | ⟨m, hm, hle⟩
    · have := hrest x hx; omega
    · have := hab m hm; omega
  have hnear0 : n = 0 → rest = [] := fun e => by
    cases hre : rest with
    | nil => rfl
    | cons q r =>
      have hx : q.1 ∈ nums rest := by simp [hre, nums]
      rcases h.near q.1 (by simp [nums] at hx ⊢; exact .inr hx) with ⟨h1, h2⟩ | ⟨m, hm, hle⟩
      · have := hrest _ hx; omega
      · have := hab m hm; omega
  have ek : nums ((if 0 < n then [(2 * n, nextValues L vs 0)] else []) ++ [(2 * n + 1, nextValues L vs 1)]) =
      (if 0 < n then [2 * n] else []) ++ [2 * n + 1] := by
    by_cases h0 : 0 < n <;> simp [nums, h0]
  have hkid : ∀ x, x ∈ (if 0 < n then [2 * n] else []) ++ [2 * n + 1] ↔ (x = 2 * n ∧ 0 < n) ∨ x = 2 * n + 1 := fun x => by
    by_cases h0 : 0 < n <;> simp [h0]
  obtain ⟨hs, hf⟩ := h.newFresh hn
  have eE : vals (E ++ [(p, u)]) = vals E ++ [(p, val u)] := by simp [vals]
  obtain ⟨hE', hspan⟩ := hr.snoc h.ech hp
  refine { ech := eE ▸ hE', clean := ?_, span := ?_, sorted := hs, fresh := hf, vsOk := ?_, restSorted := ?_, above := ?_, near := ?_,
           first := ?_, kids := ?_ }
  · intro q hq
    rcases List.mem_append.1 hq with h1 | h1
    · exact h.clean q h1
    · simp at h1; subst h1; exact hc
  · intro x
    rw [eE, hspan x, en]
    constructor
    · intro hx
      refine hx.trans (fun s hs => ?_)
      rcases hs with e | e
      · subst e; exact .of ⟨n, by simp, rfl⟩
      · exact ((h.span s).1 (.of e)).mono (fun t ht => by
          obtain ⟨m, hm, e⟩ := ht
          exact ⟨m, by simp [hm], e⟩)
    · intro hx
      refine hx.trans (fun s hs => ?_)
      obtain ⟨m, hm, rfl⟩ := hs
      rcases List.mem_append.1 hm with h1 | h1
      · exact ((h.span _).2 (.of ⟨m, h1, rfl⟩)).mono (fun t ht => .inr ht)
      · simp at h1; subst h1; exact .of (.inl rfl)
  · intro q hq
    have : q ∈ found ++ (n, vs) :: rest ∨ q = (2 * n, nextValues L vs 0) ∨ q = (2 * n + 1, nextValues L vs 1) := by
      by_cases h0 : 0 < n <;> simp [h0] at hq ⊢ <;> grind
    rcases this with h1 | h1 | h1
    · exact h.vsOk q h1
    · subst h1; rw [ev]; exact hL.next n 0 (by decide)
    · subst h1; rw [ev]; exact hL.next n 1 (by decide)
  · rw [nums_append, ek]
    refine List.pairwise_append.2 ⟨?_, ?_, fun a ha b hb => ?_⟩
    · have := h.restSorted
      simp only [nums, List.map_cons, List.pairwise_cons] at this
      exact this.2
    · by_cases h0 : 0 < n <;> simp [h0]
    · have h1 := hnear a ha
      have h2 := hrest a ha
      rcases (hkid b).1 hb with ⟨e, _⟩ | e <;> by_cases h0 : n = 0
      · omega
      · omega
      · have := hnear0 h0; subst this; simp [nums] at ha
      · omega
  · intro m hm x hx
    rw [en] at hm
    rw [nums_append, ek] at hx
    have hmn : m ≤ n := by
      rcases List.mem_append.1 hm with h1 | h1
      · exact Nat.le_of_lt (hab m h1)
      · simp at h1; omega
    rcases List.mem_append.1 hx with h1 | h1
    · have := hrest x h1; omega
    · rcases (hkid x).1 h1 with ⟨e, _⟩ | e <;> omega
  · intro x hx
    right
    rw [nums_append, ek] at hx
    rw [en]
    rcases List.mem_append.1 hx with h1 | h1
    · rcases h.near x (by simp [nums] at h1 ⊢; exact .inr h1) with ⟨h2, _⟩ | ⟨m, hm, hle⟩
      · exact ⟨n, by simp, by omega⟩
      · exact ⟨m, by simp [hm], hle⟩
    · exact ⟨n, by simp, by rcases (hkid x).1 h1 with ⟨e, _⟩ | e <;> omega⟩
  · rcases h.first with h1 | h1 | h1
    · left; rw [en]; simp [h1]
    · simp only [nums, List.map_cons, List.mem_cons] at h1
      rcases h1 with h1 | h1
      · left; rw [en]; simp; right; exact h1
      · right; left; rw [nums_append]; exact List.mem_append.2 (.inl h1)
    · exact .inr (.inr h1)
  · intro m hm d hd
    rw [en] at hm ⊢
    rw [nums_append, ek]
    rcases List.mem_append.1 hm with h1 | h1
    · rcases h.kids m h1 d hd with h2 | h2 | h2
      · left; simp [h2]
      · simp only [nums, List.map_cons, List.mem_cons] at h2
        rcases h2 with h2 | h2
        · left; simp; right; exact h2
        · right; left; exact List.mem_append.2 (.inl h2)
      · right; right; exact h2.mono (fun q hq => ⟨by simp [hq.1], hq.2⟩)
    · simp at h1; subst h1
      by_cases h0 : m = 0 ∧ d = 0
      · left; simp; right; omega
      · right; left
        refine List.mem_append.2 (.inr ((hkid _).2 ?_))
        rcases (by omega : d = 0 ∨ d = 1) with rfl | rfl
        · left; exact ⟨rfl, by omega⟩
        · right; rfl

/-- What the search comes to: all new numbers with the values there, or so many numbers that are new one by one. -/
theorem seek_spec {L : Lines} {F : Nat → List Int} (hL : Sem L F) (rows : List Row) (most : Nat) : ∀ (fuel : Nat)
    (E : List (Nat × Row)) (found rest : List (Nat × List Int)), SeekInv (rows.map (fnRow F)) F E found rest →
    found.length ≤ most → rest.length + 3 * (most - found.length) < fuel →
    match seek L rows most fuel E found rest with
    | some N => Sought (· ∈ rows.map (fnRow F)) (nums N) ∧ (nums N).Pairwise (· < ·) ∧ (∀ q, q ∈ N → q.2 = F q.1) ∧ N.length ≤ most
    | none => ∃ N : List Nat, N.length = most + 1 ∧ N.Pairwise (· < ·) ∧
        ∀ n, n ∈ N → ¬ Hangs (· ∈ rows.map (fnRow F)) (fun m => m ∈ N ∧ m < n) n
  | 0, E, found, rest, h, hm, hf => by omega
  | fuel + 1, E, found, [], h, hm, hf => by
    simp only [seek]
    refine ⟨⟨h.fresh, ?_, ?_⟩, h.sorted, fun q hq => h.vsOk q (by simp [hq]), hm⟩
    · rcases h.first with h1 | h1 | h1
      · exact .inl h1
      · simp [nums] at h1
      · exact .inr h1
    · intro n hn d hd
      rcases h.kids n hn d hd with h1 | h1 | h1
      · exact .inl h1
      · simp [nums] at h1
      · exact .inr h1
  | fuel + 1, E, found, (n, vs) :: rest, h, hm, hf => by
    obtain ⟨h1, h2, h3, h4⟩ := h.head rfl
    simp only [seek]
    cases hl : leastIndex (reduced (sparse (rows.map (fun r => sumOf r vs))) E) rows.length with
    | none =>
      exact seek_spec hL rows most fuel E found rest (h.skip (h3 hl)) hm (by simp at hf; omega)
    | some p =>
      obtain ⟨h5, h6⟩ := h4 p hl
      by_cases e : found.length = most
      · simp only [if_pos e]
        obtain ⟨a, b⟩ := h.newFresh h6
        exact ⟨nums (found ++ [(n, vs)]), by simp [nums, e], a, b⟩
      · simp only [if_neg e]
        refine seek_spec hL rows most fuel _ _ _ (h.take hL h1 h2 h5 h6) (by simp; omega) ?_
        simp at hf
        by_cases h0 : 0 < n <;> simp [h0] <;> omega

end L2.Halves
end S_HalvesSeek
section S_HalvesMix
/- What a mix of lines is at 2 n + d: half_mix, lowest. Pure. -/
namespace L2.Halves

theorem sumOf_put : ∀ (r : Row) (i : Nat) (w : Int) (vs : List Int), (keys r).Nodup →
    sumOf (put r i (get r i + w)) vs = sumOf r vs + w * vs.getD i 0
  | [], i, w, vs, _ => by simp [put, sumOf, get]
  | (k, v) :: r, i, w, vs, h => by
    have h' : k ∉ keys r ∧ (keys r).Nodup := by simpa [keys] using h
    by_cases e : k = i
    · subst e; simp only [put, get, if_true, sumOf_cons]; grind
    · simp only [put, get, if_neg e, sumOf_cons, sumOf_put r i w vs h'.2]; grind

/-- So many times the parts, into a row. -/
def addRow (t : Int) (mixed : Row) : Row → Row
  | [] => mixed
  | (k, v) :: r => addRow t (put mixed k (get mixed k + t * v)) r

theorem addRow_nodup (t : Int) : ∀ (r mixed : Row), (keys mixed).Nodup → (keys (addRow t mixed r)).Nodup
  | [], _, h => h
  | (k, v) :: r, mixed, h => addRow_nodup t r _ (nodup_put mixed k _ h)

theorem addRow_keys (t : Int) : ∀ (r mixed : Row) (i : Nat), i ∈ keys (addRow t mixed r) → i ∈ keys mixed ∨ i ∈ keys r
  | [], _, _, h => .inl h
  | (k, v) :: r, mixed, i, h => by
    rcases addRow_keys t r _ i h with h1 | h1
    · rcases (mem_keys_put mixed k _ i).1 h1 with h2 | h2
      · right; simp [keys, h2]
      · exact .inl h2
    · right; simp only [keys, List.map_cons, List.mem_cons]; exact .inr h1

theorem sumOf_addRow (t : Int) (vs : List Int) : ∀ (r mixed : Row), (keys mixed).Nodup →
    sumOf (addRow t mixed r) vs = sumOf mixed vs + t * sumOf r vs
  | [], mixed, _ => by simp [addRow, sumOf]
  | (k, v) :: r, mixed, h => by
    simp only [addRow, sumOf_addRow t vs r _ (nodup_put mixed k _ h), sumOf_put mixed k _ vs h, sumOf_cons]; grind

/-- The shared bottom. -/
def sharedOf (L : Lines) (d : Nat) : Row → Nat → Nat
  | [], s => s
  | (k, _) :: r, s => sharedOf L d r (Int.lcm s (pick (L.halves.getD k (([], 1), ([], 1))) d).2)

theorem sharedOf_spec (L : Lines) (d : Nat) : ∀ (r : Row) (s : Nat), 0 < s →
    (∀ i, i ∈ keys r → 0 < (pick (L.halves.getD i (([], 1), ([], 1))) d).2) →
    0 < sharedOf L d r s ∧ (s : Int) ∣ sharedOf L d r s ∧
    ∀ i, i ∈ keys r → (pick (L.halves.getD i (([], 1), ([], 1))) d).2 ∣ (sharedOf L d r s : Int)
  | [], s, hs, _ => ⟨hs, Int.dvd_refl _, by simp [keys]⟩
  | (k, v) :: r, s, hs, h => by
    have hk := h k (by simp [keys])
    have hp : 0 < Int.lcm s (pick (L.halves.getD k (([], 1), ([], 1))) d).2 :=
      Int.lcm_pos (by omega) (by omega)
    have ih := sharedOf_spec L d r _ hp (fun i hi => h i (by simp only [keys, List.map_cons, List.mem_cons]; exact .inr hi))
    simp only [sharedOf]
    refine ⟨ih.1, Int.dvd_trans (Int.dvd_lcm_left ..) ih.2.1, fun i hi => ?_⟩
    simp only [keys, List.map_cons, List.mem_cons] at hi
    rcases hi with e | hi
    · subst e; exact Int.dvd_trans (Int.dvd_lcm_right ..) ih.2.1
    · exact ih.2.2 i hi

/-- All parts of all lines of a mix, into a row. -/
def mixInto (L : Lines) (d : Nat) (shared : Int) : Row → Row → Row
  | [], mixed => mixed
  | (k, v) :: r, mixed =>
    mixInto L d shared r (addRow (v * (shared / (pick (L.halves.getD k (([], 1), ([], 1))) d).2)) mixed
      (pick (L.halves.getD k (([], 1), ([], 1))) d).1)

theorem mixInto_spec {L : Lines} {F : Nat → List Int} (hL : Sem L F) (d : Nat) (hd : d < 2) (n : Nat) (shared : Int) :
    ∀ (r mixed : Row), (keys mixed).Nodup → (∀ i, i ∈ keys r → i < L.starts.length) →
    (∀ i, i ∈ keys mixed → i < L.starts.length) →
    (∀ i, i ∈ keys r → (pick (L.halves.getD i (([], 1), ([], 1))) d).2 ∣ shared) →
    (keys (mixInto L d shared r mixed)).Nodup ∧ (∀ i, i ∈ keys (mixInto L d shared r mixed) → i < L.starts.length) ∧
    sumOf (mixInto L d shared r mixed) (F n) = sumOf mixed (F n) + shared * sumOf r (F (2 * n + d))
  | [], mixed, h, _, hm, _ => ⟨h, hm, by simp [mixInto, sumOf]⟩
  | (k, v) :: r, mixed, h, hr, hm, hs => by
    have hk : k < L.starts.length := hr k (by simp [keys])
    have hk' : k < L.halves.length := by rw [hL.many]; exact hk
    have eg : L.halves.getD k (([], 1), ([], 1)) = L.halves[k] := by simp [List.getD, List.getElem?_eq_getElem hk']
    have hok := pick_ok hL (List.getElem_mem hk') d
    have ex := hL.exact k hk' n d hd
    obtain ⟨t, ht⟩ := hs k (by simp [keys])
    have hr' : ∀ i, i ∈ keys r → i < L.starts.length := fun i hi => hr i (by simp only [keys, List.map_cons, List.mem_cons]; exact .inr hi)
    have hs' : ∀ i, i ∈ keys r → (pick (L.halves.getD i (([], 1), ([], 1))) d).2 ∣ shared := fun i hi =>
      hs i (by simp only [keys, List.map_cons, List.mem_cons]; exact .inr hi)
    simp only [mixInto]
    rw [eg] at ht ⊢
    have et : shared / (pick L.halves[k] d).2 = t := by
      rw [ht, Int.mul_ediv_cancel_left _ (by have := hok.pos; omega)]
    rw [et]
    obtain ⟨h1, h2, h3⟩ := mixInto_spec hL d hd n shared r (addRow (v * t) mixed (pick L.halves[k] d).1)
      (addRow_nodup _ _ _ h) hr' (fun i hi => by
        rcases addRow_keys _ _ _ i hi with h4 | h4
        · exact hm i h4
        · exact hok.small i h4) hs'
    refine ⟨h1, h2, ?_⟩
    rw [h3, sumOf_addRow _ _ _ _ h, ex, sumOf_cons, ht]; grind

theorem sumOf_trim (c : Int) (vs : List Int) : ∀ r : Row, (∀ p, p ∈ r → c ∣ p.2) → c ≠ 0 →
    c * sumOf ((r.filter (fun p => p.2 != 0)).map (fun p => (p.1, p.2 / c))) vs = sumOf r vs
  | [], _, _ => by simp [sumOf]
  | (k, v) :: r, h, hc => by
    have ih := sumOf_trim c vs r (fun p hp => h p (by simp [hp])) hc
    by_cases hv : v = 0
    · subst hv
      simp only [List.filter_cons, bne_self_eq_false, Bool.false_eq_true, if_false, ih, sumOf_cons]; grind
    · have hb : (v != 0) = true := by simpa using hv
      obtain ⟨t, ht⟩ := h (k, v) (by simp)
      simp only at ht
      simp only [List.filter_cons, hb, if_true, List.map_cons, sumOf_cons]
      rw [Int.mul_add, ih, ht, Int.mul_ediv_cancel_left _ hc]; grind

/-- In lowest terms, without zeros. -/
def lowest (r : Row) (bottom : Int) : Mix :=
  ((r.filter (fun p => p.2 != 0)).map (fun p => (p.1, p.2 / (common r bottom.toNat : Int))), bottom / (common r bottom.toNat : Int))

theorem lowest_spec (w : Nat) (r : Row) (bottom : Int) (hb : 0 < bottom) (hn : (keys r).Nodup) (hw : ∀ i, i ∈ keys r → i < w) :
    MixOk w (lowest r bottom) ∧ ∃ c : Int, 0 < c ∧ c * (lowest r bottom).2 = bottom ∧
      ∀ vs, c * sumOf (lowest r bottom).1 vs = sumOf r vs := by
  have hc : 0 < common r bottom.toNat := common_pos r _ (.inl (by omega))
  have hd := common_dvd r bottom.toNat
  have hbb : ((bottom.toNat : Nat) : Int) = bottom := by omega
  rw [hbb] at hd
  obtain ⟨t, ht⟩ := hd.1
  have ec : bottom / (common r bottom.toNat : Int) = t := by
    conv => lhs; arg 1; rw [ht]
    exact Int.mul_ediv_cancel_left _ (by omega)
  have sub : (keys (lowest r bottom).1).Sublist (keys r) := by
    simp only [keys, lowest, List.map_map, Function.comp_def]
    exact (List.filter_sublist).map _
  refine ⟨⟨⟨sub.nodup hn, fun p hp => ?_⟩, fun i hi => hw i (sub.subset hi), ?_⟩, common r bottom.toNat, by omega, ?_, fun vs => ?_⟩
  · obtain ⟨q, hq, rfl⟩ := List.mem_map.1 hp
    have hq' := List.mem_filter.1 hq
    have hq2 : q.2 ≠ 0 := by simpa using hq'.2
    obtain ⟨s, hs⟩ := hd.2 q hq'.1
    show q.2 / (common r bottom.toNat : Int) ≠ 0
    rw [hs, Int.mul_ediv_cancel_left _ (by omega)]
    intro h0; rw [h0] at hs; simp at hs; exact hq2 hs
  · show 0 < bottom / (common r bottom.toNat : Int)
    rw [ec]
    refine Int.pos_of_mul_pos_right (a := (common r bottom.toNat : Int)) ?_ (by omega)
    rw [← ht]; exact hb
  · show (common r bottom.toNat : Int) * (bottom / (common r bottom.toNat : Int)) = bottom
    rw [ec, ← ht]
  · exact sumOf_trim _ vs r hd.2 (by omega)

/-- The mix at 2 n + d. -/
def halfMix (L : Lines) (m : Mix) (d : Nat) : Mix :=
  let shared : Int := sharedOf L d m.1 1
  lowest (mixInto L d shared m.1 []) (m.2 * shared)

theorem halfMix_spec {L : Lines} {F : Nat → List Int} (hL : Sem L F) {m : Mix} (hm : MixOk L.starts.length m) (d : Nat) (hd : d < 2) :
    MixOk L.starts.length (halfMix L m d) ∧ ∀ n, fnMix F (halfMix L m d) n = fnMix F m (2 * n + d) := by
  have hpos : ∀ i, i ∈ keys m.1 → 0 < (pick (L.halves.getD i (([], 1), ([], 1))) d).2 := fun i hi => by
    have hk' : i < L.halves.length := by rw [hL.many]; exact hm.small i hi
    have eg : L.halves.getD i (([], 1), ([], 1)) = L.halves[i] := by simp [List.getD, List.getElem?_eq_getElem hk']
    rw [eg]; exact (pick_ok hL (List.getElem_mem hk') d).pos
  obtain ⟨s1, _, s3⟩ := sharedOf_spec L d m.1 1 (by decide) hpos
  have key := fun n => mixInto_spec hL d hd n (sharedOf L d m.1 1 : Int) m.1 [] (by simp [keys]) hm.small (by simp [keys]) s3
  have hb : 0 < m.2 * (sharedOf L d m.1 1 : Int) := Int.mul_pos hm.pos (by omega)
  obtain ⟨l1, c, l2, l3, l4⟩ := lowest_spec L.starts.length _ _ hb (key 0).1 (key 0).2.1
  refine ⟨l1, fun n => ?_⟩
  show (sumOf (lowest _ _).1 (F n) : Rat) / ((lowest _ _).2 : Rat) = (sumOf m.1 (F (2 * n + d)) : Rat) / (m.2 : Rat)
  have e1 := l4 (F n)
  rw [(key n).2.2, sumOf_nil, Int.zero_add] at e1
  generalize (lowest (mixInto L d (sharedOf L d m.1 1 : Int) m.1 []) (m.2 * (sharedOf L d m.1 1 : Int))) = q at *
  have e2 := congrArg (fun x : Int => (x : Rat)) e1
  have e3 := congrArg (fun x : Int => (x : Rat)) l3
  simp only [Rat.intCast_mul] at e2 e3
  have hc0 : (c : Rat) ≠ 0 := by simpa [Rat.intCast_eq_zero_iff] using (show c ≠ 0 by omega)
  have hs0 : ((sharedOf L d m.1 1 : Int) : Rat) ≠ 0 := by
    simpa [Rat.intCast_eq_zero_iff] using (show (sharedOf L d m.1 1 : Int) ≠ 0 by omega)
  have hm0 : (m.2 : Rat) ≠ 0 := by simpa [Rat.intCast_eq_zero_iff] using (show m.2 ≠ 0 by have := hm.pos; omega)
  have hq0 : (q.2 : Rat) ≠ 0 := by simpa [Rat.intCast_eq_zero_iff] using (show q.2 ≠ 0 by have := l1.pos; omega)
  grind

end L2.Halves
end S_HalvesMix
section S_HalvesWhole
/- Lines without fractions: what combined, stepped values, values at n and values far out are. Pure. -/
namespace L2.Halves

structure WLines where
  evens : List Row
  odds : List Row
  starts : List Int

def WLines.rows (L : WLines) (d : Nat) : List Row := if d = 0 then L.evens else L.odds

def stepped (mixes : List Row) (vs : List Int) : List Int := mixes.map (fun r => sumOf r vs)

/-- A whole mix of so many lines. -/
structure WRow (w : Nat) (r : Row) : Prop where
  clean : Clean r
  small : ∀ i, i ∈ keys r → i < w

structure WOk (L : WLines) : Prop where
  we : L.evens.length = L.starts.length
  wo : L.odds.length = L.starts.length
  re : ∀ r, r ∈ L.evens → WRow L.starts.length r
  ro : ∀ r, r ∈ L.odds → WRow L.starts.length r
  fit : stepped L.evens L.starts = L.starts

theorem WOk.len {L : WLines} (h : WOk L) (d : Nat) : (L.rows d).length = L.starts.length := by
  unfold WLines.rows; split
  · exact h.we
  · exact h.wo

theorem WOk.row {L : WLines} (h : WOk L) (d : Nat) : ∀ r, r ∈ L.rows d → WRow L.starts.length r := by
  unfold WLines.rows; split
  · exact h.re
  · exact h.ro

/-- The values of all lines at n. -/
def vat (L : WLines) (n : Nat) : List Int :=
  if h : n = 0 then L.starts else stepped (L.rows (n % 2)) (vat L (n / 2))
termination_by n
decreasing_by omega

theorem vat_zero (L : WLines) : vat L 0 = L.starts := by
  unfold vat; simp

theorem vat_step {L : WLines} (h : WOk L) (n d : Nat) (hd : d < 2) : vat L (2 * n + d) = stepped (L.rows d) (vat L n) := by
  by_cases e : 2 * n + d = 0
  · have hn : n = 0 := by omega
    have hd0 : d = 0 := by omega
    subst hn hd0
    rw [vat_zero]
    exact h.fit.symm
  · rw [vat, dif_neg e]
    have e1 : (2 * n + d) % 2 = d := by omega
    have e2 : (2 * n + d) / 2 = n := by omega
    rw [e1, e2]

theorem vat_len {L : WLines} (h : WOk L) : ∀ n, (vat L n).length = L.starts.length := fun n => by
  induction n using Nat.strongRecOn with
  | _ n ih =>
    rw [vat]
    split
    · rfl
    · simp only [stepped, List.length_map]; exact h.len _

theorem vat_half {L : WLines} (h : WOk L) (n k : Nat) : vat L (n / 2 ^ k) = stepped (L.rows (n / 2 ^ k % 2)) (vat L (n / 2 ^ (k + 1))) := by
  have e : n / 2 ^ k = 2 * (n / 2 ^ (k + 1)) + n / 2 ^ k % 2 := by
    rw [Nat.pow_succ, ← Nat.div_div_eq_div_mul]; omega
  have := vat_step h (n / 2 ^ (k + 1)) (n / 2 ^ k % 2) (by omega)
  rw [← e] at this
  exact this

/-! ### zeros stay -/
theorem sumOf_zero (r : Row) (vs : List Int) (h : ∀ z, z ∈ vs → z = 0) : sumOf r vs = 0 := by
  induction r with
  | nil => rfl
  | cons p r ih =>
    rw [sumOf_cons, ih]
    have : vs.getD p.1 0 = 0 := by
      rw [List.getD]
      cases hp : vs[p.1]? with
      | none => rfl
      | some z => exact h z (List.mem_of_getElem? hp)
    rw [this]; simp

theorem stepped_zero (m : List Row) (vs : List Int) (h : ∀ z, z ∈ vs → z = 0) : ∀ z, z ∈ stepped m vs → z = 0 := fun z hz => by
  obtain ⟨r, _, rfl⟩ := List.mem_map.1 hz
  exact sumOf_zero r vs h

theorem vat_zero_stays {L : WLines} (h : WOk L) (n : Nat) : ∀ k, (∀ z, z ∈ vat L (n / 2 ^ k) → z = 0) → ∀ z, z ∈ vat L n → z = 0
  | 0, hz => by simpa using hz
  | k + 1, hz => vat_zero_stays h n k (by rw [vat_half h n k]; exact stepped_zero _ _ hz)

theorem zeros_eq {a b : List Int} (hl : a.length = b.length) (ha : ∀ z, z ∈ a → z = 0) (hb : ∀ z, z ∈ b → z = 0) : a = b := by
  refine List.ext_getElem hl (fun i h1 h2 => ?_)
  rw [ha _ (List.getElem_mem h1), hb _ (List.getElem_mem h2)]

/-! ### combined -/
def combInto (mixes : List Row) : Row → Row → Row
  | [], mixed => mixed
  | (k, v) :: r, mixed => combInto mixes r (addRow v mixed (mixes.getD k []))

def nonzero (r : Row) : Row := r.filter (fun p => p.2 != 0)

def combined (factors : Row) (mixes : List Row) : Row := nonzero (combInto mixes factors [])

theorem combInto_nodup (M : List Row) : ∀ (f mixed : Row), (keys mixed).Nodup → (keys (combInto M f mixed)).Nodup
  | [], _, h => h
  | (k, v) :: r, mixed, h => combInto_nodup M r _ (addRow_nodup _ _ _ h)

theorem combInto_keys (M : List Row) : ∀ (f mixed : Row) (i : Nat), i ∈ keys (combInto M f mixed) → i ∈ keys mixed ∨ ∃ r, r ∈ M ∧ i ∈ keys r
  | [], _, _, h => .inl h
  | (k, v) :: f, mixed, i, h => by
    rcases combInto_keys M f _ i h with h1 | h1
    · rcases addRow_keys _ _ _ i h1 with h2 | h2
      · exact .inl h2
      · right
        rw [List.getD] at h2
        cases hk : M[k]? with
        | none => rw [hk] at h2; simp [keys] at h2
        | some r => rw [hk] at h2; exact ⟨r, List.mem_of_getElem? hk, h2⟩
    · exact .inr h1

theorem getD_stepped (M : List Row) (vs : List Int) (k : Nat) : (stepped M vs).getD k 0 = sumOf (M.getD k []) vs := by
  simp only [stepped, List.getD, List.getElem?_map]
  cases M[k]? <;> simp [sumOf]

theorem sumOf_combInto (M : List Row) (vs : List Int) : ∀ (f mixed : Row), (keys mixed).Nodup →
    sumOf (combInto M f mixed) vs = sumOf mixed vs + sumOf f (stepped M vs)
  | [], mixed, _ => by simp [combInto, sumOf]
  | (k, v) :: f, mixed, h => by
    simp only [combInto, sumOf_combInto M vs f _ (addRow_nodup _ _ _ h), sumOf_addRow _ _ _ _ h, sumOf_cons, getD_stepped]
    omega

theorem sumOf_nonzero (vs : List Int) : ∀ r : Row, sumOf (nonzero r) vs = sumOf r vs
  | [] => rfl
  | (k, v) :: r => by
    have ih := sumOf_nonzero vs r
    simp only [nonzero] at ih ⊢
    by_cases hv : v = 0
    · subst hv
      simp only [List.filter_cons, bne_self_eq_false, Bool.false_eq_true, if_false, ih, sumOf_cons]; simp
    · have hb : (v != 0) = true := by simpa using hv
      simp only [List.filter_cons, hb, if_true, sumOf_cons, ih]

theorem nonzero_keys (r : Row) : (keys (nonzero r)).Sublist (keys r) := (List.filter_sublist).map _

theorem nonzero_clean {r : Row} (h : (keys r).Nodup) : Clean (nonzero r) :=
  ⟨(nonzero_keys r).nodup h, fun p hp => by simpa using (List.mem_filter.1 hp).2⟩

theorem combined_clean (f : Row) (M : List Row) : Clean (combined f M) := nonzero_clean (combInto_nodup M f [] (by simp [keys]))

theorem combined_keys {f : Row} {M : List Row} {w : Nat} (h : ∀ r, r ∈ M → ∀ i, i ∈ keys r → i < w) : ∀ i, i ∈ keys (combined f M) → i < w := fun i hi => by
  rcases combInto_keys M f [] i ((nonzero_keys _).subset hi) with h1 | ⟨r, hr, h1⟩
  · simp [keys] at h1
  · exact h r hr i h1

theorem sumOf_combined (f : Row) (M : List Row) (vs : List Int) : sumOf (combined f M) vs = sumOf f (stepped M vs) := by
  rw [combined, sumOf_nonzero, sumOf_combInto M vs f [] (by simp [keys])]
  simp [sumOf]

/-- The mixes of mixes. -/
def combAll (low high : List Row) : List Row := low.map (fun r => combined r high)

theorem stepped_combAll (low high : List Row) (vs : List Int) : stepped (combAll low high) vs = stepped low (stepped high vs) := by
  simp only [stepped, combAll, List.map_map]
  refine List.map_congr_left (fun r _ => ?_)
  exact sumOf_combined r high vs

/-- Four digits at once: the two high ones first. -/
def pairOf (L : WLines) (p : Nat) : List Row := combAll (L.rows (p % 2)) (L.rows (p / 2))
def fourOf (L : WLines) (d : Nat) : List Row := combAll (pairOf L (d % 4)) (pairOf L (d / 4))

theorem vat_pair {L : WLines} (h : WOk L) (n p : Nat) (hp : p < 4) : vat L (4 * n + p) = stepped (pairOf L p) (vat L n) := by
  rw [pairOf, stepped_combAll]
  have e : 4 * n + p = 2 * (2 * n + p / 2) + p % 2 := by omega
  rw [e, vat_step h _ _ (by omega), vat_step h _ _ (by omega)]

theorem vat_four {L : WLines} (h : WOk L) (n d : Nat) (hd : d < 16) : vat L (16 * n + d) = stepped (fourOf L d) (vat L n) := by
  rw [fourOf, stepped_combAll]
  have e : 16 * n + d = 4 * (4 * n + d / 4) + d % 4 := by omega
  rw [e, vat_pair h _ _ (by omega), vat_pair h _ _ (by omega)]

theorem vat_fours {L : WLines} (h : WOk L) (n k : Nat) : vat L (n / 2 ^ k) = stepped (fourOf L (n / 2 ^ k % 16)) (vat L (n / 2 ^ (k + 4))) := by
  have e : n / 2 ^ k = 16 * (n / 2 ^ (k + 4)) + n / 2 ^ k % 16 := by
    rw [Nat.pow_add, ← Nat.div_div_eq_div_mul]; omega
  have := vat_four h (n / 2 ^ (k + 4)) (n / 2 ^ k % 16) (by omega)
  rw [← e] at this
  exact this

/-! ### bounds -/
def Small (n : Nat) (r : Row) : Prop := ∀ p, p ∈ r → p.2.natAbs < 2 ^ n

theorem sumOf_bound {a b : Nat} (vs : List Int) (hv : ∀ z, z ∈ vs → z.natAbs < 2 ^ b) : ∀ r : Row, Small a r → (sumOf r vs).natAbs ≤ r.length * 2 ^ (a + b)
  | [], _ => by simp [sumOf]
  | p :: r, h => by
    have ih := sumOf_bound vs hv r (fun q hq => h q (List.mem_cons_of_mem _ hq))
    have h1 : p.2.natAbs < 2 ^ a := h p (by simp)
    have h2 : (vs.getD p.1 0).natAbs < 2 ^ b := by
      rw [List.getD]
      cases hp : vs[p.1]? with
      | none => simpa using Nat.pow_pos (by decide)
      | some z => exact hv z (List.mem_of_getElem? hp)
    have h3 : (p.2 * vs.getD p.1 0).natAbs ≤ 2 ^ (a + b) := by
      rw [Int.natAbs_mul, Nat.pow_add]
      exact Nat.mul_le_mul (Nat.le_of_lt h1) (Nat.le_of_lt h2)
    rw [sumOf_cons, List.length_cons, Nat.add_mul, Nat.one_mul]
    have := Int.natAbs_add_le (p.2 * vs.getD p.1 0) (sumOf r vs)
    omega

theorem sumOf_lt {a b c : Nat} {vs : List Int} (hv : ∀ z, z ∈ vs → z.natAbs < 2 ^ b) {r : Row} (h : Small a r) (hl : r.length < 2 ^ c) : (sumOf r vs).natAbs < 2 ^ (a + b + c) := by
  refine Nat.lt_of_le_of_lt (sumOf_bound vs hv r h) ?_
  rw [Nat.pow_add _ (a + b) c, Nat.mul_comm]
  exact Nat.mul_lt_mul_of_pos_left hl (Nat.pow_pos (by decide))

theorem nodup_lt : ∀ (w : Nat) (l : List Nat), l.Nodup → (∀ i, i ∈ l → i < w) → l.length ≤ w
  | 0, l, _, h => by
    cases l with
    | nil => simp
    | cons x l => exact absurd (h x (by simp)) (by omega)
  | w + 1, l, hn, h => by
    have h1 := nodup_lt w (l.erase w) (hn.erase w) (fun i hi => by
      have h2 := (hn.mem_erase_iff).1 hi
      have := h i h2.2
      have := h2.1
      omega)
    have h3 : l.length ≤ (l.erase w).length + 1 := by
      rw [List.length_erase]; split <;> omega
    omega

theorem row_length {w : Nat} {r : Row} (h : WRow w r) : r.length ≤ w := by
  have h1 : (keys r).length = r.length := by simp [keys]
  rw [← h1]
  exact nodup_lt w _ h.clean.nodup h.small

theorem vat_bound {L : WLines} (h : WOk L) {a b c : Nat} (hl : L.starts.length < 2 ^ c) (hr : ∀ d r, r ∈ L.rows d → Small a r) (hs : ∀ z, z ∈ L.starts → z.natAbs < 2 ^ b) :
    ∀ k n, n < 2 ^ k → ∀ z, z ∈ vat L n → z.natAbs < 2 ^ (b + k * (a + c))
  | 0, n, hn, z, hz => by
    have : n = 0 := by simpa using hn
    subst this
    rw [vat_zero] at hz
    simpa using hs z hz
  | k + 1, n, hn, z, hz => by
    have e : n = 2 * (n / 2) + n % 2 := by omega
    rw [e, vat_step h _ _ (by omega)] at hz
    obtain ⟨r, hrm, rfl⟩ := List.mem_map.1 hz
    have hk : n / 2 < 2 ^ k := by rw [Nat.pow_succ] at hn; omega
    have ih := vat_bound h hl hr hs k (n / 2) hk
    have hlr : r.length < 2 ^ c := Nat.lt_of_le_of_lt (row_length (h.row _ r hrm)) hl
    have := sumOf_lt ih (hr _ r hrm) hlr
    rw [Nat.succ_mul]
    have e2 : b + (k * (a + c) + (a + c)) = a + (b + k * (a + c)) + c := by omega
    rw [e2]; exact this

/-- the entries of a combination -/
def sumAt (M : List Row) (i : Nat) : List Int := M.map (fun r => get r i)
theorem get_addRow (t : Int) (i : Nat) : ∀ (r mixed : Row), (keys r).Nodup → get (addRow t mixed r) i = get mixed i + t * get r i
  | [], mixed, _ => by simp [addRow, get]
  | (k, v) :: r, mixed, h => by
    have h' : k ∉ keys r ∧ (keys r).Nodup := by simpa [keys] using h
    simp only [addRow, get_addRow t i r _ h'.2, get_put, get]
    by_cases e : k = i
    · subst e; rw [if_pos rfl, if_pos rfl, get_of_not_mem r k h'.1]; simp
    · rw [if_neg (Ne.symm e), if_neg e]
theorem getD_sumAt (M : List Row) (i k : Nat) : (sumAt M i).getD k 0 = get (M.getD k []) i := by
  simp only [sumAt, List.getD, List.getElem?_map]
  cases M[k]? <;> simp [get]
theorem getD_nodup {M : List Row} (h : ∀ r, r ∈ M → (keys r).Nodup) (k : Nat) : (keys (M.getD k [])).Nodup := by
  rw [List.getD]
  cases hk : M[k]? with
  | none => simp [keys]
  | some r => exact h r (List.mem_of_getElem? hk)
theorem get_combInto {M : List Row} (hM : ∀ r, r ∈ M → (keys r).Nodup) (i : Nat) : ∀ (f mixed : Row), get (combInto M f mixed) i = get mixed i + sumOf f (sumAt M i)
  | [], mixed => by simp [combInto, sumOf]
  | (k, v) :: f, mixed => by
    simp only [combInto, get_combInto hM i f, get_addRow v i _ _ (getD_nodup hM k), sumOf_cons, getD_sumAt]; omega
theorem combined_small {f : Row} {M : List Row} {a b c : Nat} (hf : Small a f) (hM : ∀ r, r ∈ M → Small b r ∧ (keys r).Nodup) (hl : f.length < 2 ^ c) : Small (a + b + c) (combined f M) := fun p hp => by
  have hp' := (List.mem_filter.1 hp).1
  have e := get_of_mem _ p (combInto_nodup M f [] (by simp [keys])) hp'
  rw [get_combInto (fun r hr => (hM r hr).2)] at e
  have e2 : p.2 = sumOf f (sumAt M p.1) := by rw [← e]; simp [get]
  rw [e2]
  refine sumOf_lt (fun z hz => ?_) hf hl
  obtain ⟨r, hr, rfl⟩ := List.mem_map.1 hz
  by_cases hi : p.1 ∈ keys r
  · obtain ⟨q, hq, hq2⟩ := List.mem_map.1 hi
    rw [← hq2, get_of_mem r q (hM r hr).2 hq]
    exact (hM r hr).1 q hq
  · rw [get_of_not_mem r _ hi]; exact Nat.pow_pos (by decide)

end L2.Halves
end S_HalvesWhole
section S_HalvesTold
/- The search for the basic parts, and what is known of all parts. Pure. -/
namespace L2.Halves

/-! ### Fractions -/

def fraction (top bottom : Int) : Int × Int :=
  let c : Int := Int.gcd top bottom
  let c := if bottom < 0 then -c else c
  (top / c, bottom / c)

def fr (p : Int × Int) : Rat := (p.1 : Rat) / (p.2 : Rat)

structure LowF (p : Int × Int) : Prop where
  pos : 0 < p.2
  low : Int.gcd p.1 p.2 = 1

theorem fraction_spec (top bottom : Int) (hb : bottom ≠ 0) : LowF (fraction top bottom) ∧
    fr (fraction top bottom) = (top : Rat) / (bottom : Rat) := by
  have hg0 : Int.gcd top bottom ≠ 0 := by
    intro h; rw [Int.gcd_eq_zero_iff] at h; exact hb h.2
  obtain ⟨s, hs⟩ : (Int.gcd top bottom : Int) ∣ top := Int.gcd_dvd_left ..
  obtain ⟨t, ht⟩ : (Int.gcd top bottom : Int) ∣ bottom := Int.gcd_dvd_right ..
  have hcop : Int.gcd s t = 1 := by
    have h1 : Int.gcd ((Int.gcd top bottom : Int) * s) ((Int.gcd top bottom : Int) * t) = Int.gcd top bottom * Int.gcd s t := by
      rw [Int.gcd_mul_left]; simp
    rw [← hs, ← ht] at h1
    have : Int.gcd top bottom * 1 = Int.gcd top bottom * Int.gcd s t := by omega
    exact (Nat.eq_of_mul_eq_mul_left (by omega) this).symm
  generalize hc : (Int.gcd top bottom : Int) = c at *
  have hcp : 0 < c := by omega
  have c0 : (c : Rat) ≠ 0 := by simpa [Rat.intCast_eq_zero_iff] using (show c ≠ 0 by omega)
  have t0 : t ≠ 0 := by intro h; rw [h] at ht; simp at ht; exact hb ht
  have t0' : (t : Rat) ≠ 0 := by simpa [Rat.intCast_eq_zero_iff] using t0
  by_cases hneg : bottom < 0
  · have e : fraction top bottom = (-s, -t) := by
      simp only [fraction, hc, if_pos hneg]
      rw [hs, ht, Int.ediv_neg, Int.ediv_neg, Int.mul_ediv_cancel_left _ (by omega), Int.mul_ediv_cancel_left _ (by omega)]
    rw [e]
    have tn : t < 0 := by
      refine Classical.byContradiction (fun h => ?_)
      have : 0 ≤ c * t := Int.mul_nonneg (by omega) (by omega)
      omega
    refine ⟨⟨by show 0 < -t; omega, by show Int.gcd (-s) (-t) = 1; rw [Int.gcd_neg, Int.neg_gcd]; exact hcop⟩, ?_⟩
    simp only [fr, hs, ht, Rat.intCast_mul, Rat.intCast_neg]
    grind
  · have e : fraction top bottom = (s, t) := by
      simp only [fraction, hc, if_neg hneg]
      rw [hs, ht, Int.mul_ediv_cancel_left _ (by omega), Int.mul_ediv_cancel_left _ (by omega)]
    rw [e]
    have tp : 0 < t := by
      refine Classical.byContradiction (fun h => ?_)
      have : c * t ≤ 0 := by
        have := Int.mul_nonneg (show 0 ≤ c by omega) (show 0 ≤ -t by omega)
        rw [Int.mul_neg] at this; omega
      omega
    refine ⟨⟨tp, hcop⟩, ?_⟩
    simp only [fr, hs, ht, Rat.intCast_mul]
    grind

theorem dvd_cop {a b d : Int} (h : b ∣ a * d) (hc : Int.gcd a b = 1) : b ∣ d := by
  have h1 : b.natAbs ∣ a.natAbs * d.natAbs := by
    rw [← Int.natAbs_mul]; exact Int.natAbs_dvd_natAbs.2 h
  have h2 : Nat.Coprime b.natAbs a.natAbs := by
    rw [Nat.coprime_comm]; exact hc
  exact Int.natAbs_dvd_natAbs.1 (h2.dvd_of_dvd_mul_left h1)

theorem lowF_unique {p q : Int × Int} (hp : LowF p) (hq : LowF q) (e : fr p = fr q) : p = q := by
  obtain ⟨a, b⟩ := p
  obtain ⟨c, d⟩ := q
  have hb := hp.pos; have hd := hq.pos; have h1 := hp.low; have h2 := hq.low
  simp only at hb hd h1 h2
  have b0 : (b : Rat) ≠ 0 := by simpa [Rat.intCast_eq_zero_iff] using (show b ≠ 0 by omega)
  have d0 : (d : Rat) ≠ 0 := by simpa [Rat.intCast_eq_zero_iff] using (show d ≠ 0 by omega)
  have e' : (a : Rat) * d = c * b := by simp only [fr] at e; grind
  rw [← Rat.intCast_mul, ← Rat.intCast_mul, Rat.intCast_inj] at e'
  have k1 : b ∣ d := by
    have : b ∣ a * d := ⟨c, by rw [e']; exact Int.mul_comm c b⟩
    exact dvd_cop this h1
  have k2 : d ∣ b := by
    have : d ∣ c * b := ⟨a, by rw [← e']; exact Int.mul_comm a d⟩
    exact dvd_cop this h2
  have e1 : b = d := Int.le_antisymm (Int.le_of_dvd hd k1) (Int.le_of_dvd hb k2)
  subst e1
  have : a = c := Int.eq_of_mul_eq_mul_right (by omega) e'
  rw [this]

/-! ### Sums by a function of the index -/

def linF : (Nat → Rat) → List Fn → Fn
  | _, [] => fun _ => 0
  | c, g :: gs => fun n => c 0 * g n + linF (fun j => c (j + 1)) gs n

theorem linF_add : ∀ (gs : List Fn) (a : Rat) (c d : Nat → Rat) (n : Nat),
    linF (fun j => a * c j + d j) gs n = a * linF c gs n + linF d gs n
  | [], a, c, d, n => by simp only [linF]; grind
  | g :: gs, a, c, d, n => by
    have := linF_add gs a (fun j => c (j + 1)) (fun j => d (j + 1)) n
    simp only [linF, this]; grind

theorem linF_zero : ∀ (gs : List Fn) (n : Nat), linF (fun _ => 0) gs n = 0
  | [], _ => rfl
  | g :: gs, n => by
    have := linF_zero gs n
    simp only [linF, this]; grind

theorem linF_snoc : ∀ (gs : List Fn) (c : Nat → Rat) (g : Fn) (n : Nat),
    linF c (gs ++ [g]) n = linF c gs n + c gs.length * g n
  | [], c, g, n => by simp only [List.nil_append, linF, List.length_nil]; grind
  | h :: gs, c, g, n => by
    have := linF_snoc gs (fun j => c (j + 1)) g n
    simp only [List.cons_append, linF, this, List.length_cons]; grind

theorem linF_congr : ∀ (gs : List Fn) (c d : Nat → Rat) (n : Nat), (∀ j, j < gs.length → c j = d j) → linF c gs n = linF d gs n
  | [], _, _, _, _ => rfl
  | g :: gs, c, d, n, h => by
    have := linF_congr gs (fun j => c (j + 1)) (fun j => d (j + 1)) n (fun j hj => h (j + 1) (by simp; omega))
    simp only [linF, this, h 0 (by simp)]

theorem linF_span : ∀ (gs : List Fn) (c : Nat → Rat), Span (· ∈ gs) (linF c gs)
  | [], _ => .zero
  | g :: gs, c => .more (c 0) g _ (by simp) ((linF_span gs _).mono (fun s hs => List.mem_cons_of_mem _ hs))

theorem linF_lin : ∀ (gs : List Fn) (c : Nat → Rat) (n : Nat), linF c gs n = lin ((List.range gs.length).map c) gs n
  | [], c, n => by simp [linF, lin]
  | g :: gs, c, n => by
    have := linF_lin gs (fun j => c (j + 1)) n
    simp only [linF, this, List.length_cons, List.range_succ_eq_map, List.map_cons, List.map_map, lin]
    rfl

theorem rowOf_more (N : List Nat) (a : Rat) (s w : Fn) (i : Nat) :
    rowOf N (fun n => a * s n + w n) i = a * rowOf N s i + rowOf N w i := by
  cases hi : N[i]? <;> simp [rowOf, hi]; grind

theorem rowOf_congr (N : List Nat) {s w : Fn} (h : ∀ n, s n = w n) (i : Nat) : rowOf N s i = rowOf N w i := by
  have : s = w := funext h
  rw [this]

/-! ### Rows with a tail that tells from which parts they are mixed -/

/-- The first so many. -/
def hd (width : Nat) (v : Vec Nat) : Vec Nat := fun i => if i < width then v i else 0

def heads (width : Nat) (E : List (Nat × Vec Nat)) : List (Nat × Vec Nat) := E.map (fun q => (q.1, hd width q.2))

theorem ech_heads (width : Nat) : ∀ E : List (Nat × Vec Nat), Ech E → (∀ q, q ∈ E → q.1 < width) → Ech (heads width E)
  | [], _, _ => trivial
  | (p, r) :: E, h, hp => by
    obtain ⟨h1, h2, h3⟩ := h
    have pp : p < width := hp (p, r) (by simp)
    refine ⟨by simpa [hd, pp] using h1, fun q hq => ?_, ech_heads width E h3 (fun q hq => hp q (by simp [hq]))⟩
    obtain ⟨q', hq', rfl⟩ := List.mem_map.1 hq
    simpa [hd, pp] using h2 q' hq'

theorem span_hd {S T : Vec Nat → Prop} (width : Nat) (h : ∀ s, S s → T (hd width s)) {v : Vec Nat} (hv : Span S v) :
    Span T (hd width v) := by
  induction hv with
  | zero => exact Span.zero.congr (fun i => by simp [hd])
  | more a s w hs _ ih =>
    refine (Span.more a _ _ (h s hs) ih).congr (fun i => ?_)
    by_cases hi : i < width <;> simp [hd, hi]; grind

theorem Red.heads {E : List (Nat × Vec Nat)} {v u : Vec Nat} (width : Nat) (h : Red E v u) (hp : ∀ q, q ∈ E → q.1 < width) :
    Red (heads width E) (hd width v) (hd width u) := by
  obtain ⟨⟨k, w, hk, hw, e⟩, hz⟩ := h
  refine ⟨⟨k, hd width w, hk, span_hd width (fun s hs => ?_) hw, fun i => ?_⟩, fun q hq => ?_⟩
  · obtain ⟨q, hq, rfl⟩ := List.mem_map.1 hs
    exact List.mem_map.2 ⟨(q.1, hd width q.2), List.mem_map.2 ⟨q, hq, rfl⟩, rfl⟩
  · by_cases hi : i < width <;> simp [hd, hi, e i]; grind
  · obtain ⟨q', hq', rfl⟩ := List.mem_map.1 hq
    have := hz q' hq'
    simp [hd, this]

/-- The head is the row of values of the mix of the parts that the tail tells. -/
structure Aug (N : List Nat) (gs : List Fn) (w : Vec Nat) : Prop where
  head : ∀ i, i < N.length → w i = rowOf N (linF (fun j => w (N.length + j)) gs) i
  tail : ∀ j, gs.length ≤ j → w (N.length + j) = 0

theorem aug_more {N : List Nat} {gs : List Fn} {s w : Vec Nat} (a : Rat) (hs : Aug N gs s) (hw : Aug N gs w) :
    Aug N gs (fun i => a * s i + w i) :=
  ⟨fun i hi => by
    rw [hs.head i hi, hw.head i hi, ← rowOf_more]
    exact rowOf_congr N (fun n => (linF_add gs a _ _ n).symm) i,
   fun j hj => by
    show a * s (N.length + j) + w (N.length + j) = 0
    rw [hs.tail j hj, hw.tail j hj]; grind⟩

theorem aug_zero (N : List Nat) (gs : List Fn) : Aug N gs (fun _ => 0) :=
  ⟨fun i hi => by
    rw [rowOf_congr N (w := fun _ => 0) (fun n => linF_zero gs n) i]
    cases h : N[i]? <;> simp [rowOf, h], fun _ _ => rfl⟩

theorem aug_span {N : List Nat} {gs : List Fn} {S : Vec Nat → Prop} (h : ∀ s, S s → Aug N gs s) {v : Vec Nat} (hv : Span S v) :
    Aug N gs v := by
  induction hv with
  | zero => exact aug_zero N gs
  | more a s w hs _ ih => exact aug_more a (h s hs) ih

theorem aug_snoc {N : List Nat} {gs : List Fn} {w : Vec Nat} (g : Fn) (h : Aug N gs w) : Aug N (gs ++ [g]) w :=
  ⟨fun i hi => by
    rw [h.head i hi]
    refine rowOf_congr N (fun n => ?_) i
    rw [linF_snoc]
    have := h.tail gs.length (Nat.le_refl _)
    rw [this]; grind,
   fun j hj => h.tail j (by simp at hj; omega)⟩

/-- The row of values with its own 1 behind. -/
theorem aug_own {N : List Nat} {gs : List Fn} {g : Fn} {v : Vec Nat} (h1 : ∀ i, i < N.length → v i = rowOf N g i)
    (h2 : v (N.length + gs.length) = 1) (h3 : ∀ j, j ≠ gs.length → v (N.length + j) = 0) : Aug N (gs ++ [g]) v :=
  ⟨fun i hi => by
    rw [h1 i hi]
    refine rowOf_congr N (fun n => ?_) i
    rw [linF_snoc, linF_congr gs _ (fun _ => 0) n (fun j hj => h3 j (by omega)), linF_zero, h2]; grind,
   fun j hj => h3 j (by simp at hj; omega)⟩

end L2.Halves
end S_HalvesTold
section S_HalvesTellB
/- The search for the basic parts, as it is done over whole lines: a run that checks what each clearing asks. Pure. -/
namespace L2.Halves

abbrev Fracs := List (Nat × (Int × Int))
abbrev PartM := Nat × Nat × Row

/-- what a clearing asks -/
def clearOkB (n : Nat) (row other : Row) (p : Nat) : Bool :=
  decide ((keys row).Nodup) && row.all (fun q => q.2 != 0) && decide ((keys other).Nodup) && other.all (fun q => q.2 != 0) &&
  decide (row.length + other.length ≤ 900) && (get other p != 0) && row.all (fun q => decide (q.2.natAbs < 2 ^ n)) && other.all (fun q => decide (q.2.natAbs < 2 ^ n))

def redOkB (n : Nat) : Row → List (Nat × Row) → Bool
  | _, [] => true
  | row, (p, r) :: E => if has row p = true then clearOkB n row r p && redOkB n (cleared row r p) E else redOkB n row E

/-- the row of a part: its factors, and behind them its own 1 -/
def ownRow (own : Row) (w many : Nat) : Row := put own (w + many) 1

def combination (rest : Row) (w many : Nat) : Fracs :=
  ((List.range many).filter (fun i => has rest (w + i))).map (fun i => (i, fraction (-(get rest (w + i))) (get rest (w + many))))

structure Told where
  E : List (Nat × Row)
  known : List ((Nat × Nat) × Fracs)
  parts : List PartM
  fresh : List PartM

/-- what the run asks of a number that stands in fractions -/
def smallB (n : Nat) (r : Row) : Bool := r.all (fun q => decide (q.2.natAbs < 2 ^ n))

def rowInB (n w : Nat) (r : Row) : Bool := decide ((keys r).Nodup) && r.all (fun q => decide (q.1 < w)) && decide (r.length ≤ 900) && smallB n r

def stepOkB (n w : Nat) (T : Told) (p : PartM) (rest : Row) : Bool :=
  rowInB n w p.2.2 && decide (p.1 ≤ 1000) && decide (T.parts.length ≤ 300) && decide (T.known.length ≤ 3000) && decide (T.E.length ≤ 300) && decide (T.fresh.length ≤ 300) &&
  redOkB n (ownRow p.2.2 w T.parts.length) T.E && decide (rest.length ≤ 900) && smallB n rest && (leastIndex rest w != none || get rest (w + T.parts.length) != 0)

def partStepW (n w : Nat) (T : Told) (p : PartM) : Option Told :=
  let rest := reduced (ownRow p.2.2 w T.parts.length) T.E
  if stepOkB n w T p rest = true then
    match leastIndex rest w with
    | none => some { T with known := ((p.1, p.2.1), combination rest w T.parts.length) :: T.known }
    | some piv => some { E := T.E ++ [(piv, rest)], known := ((p.1, p.2.1), [(T.parts.length, (1, 1))]) :: T.known, parts := T.parts ++ [p], fresh := T.fresh ++ [p] }
  else none

def partStepsW (n w : Nat) : Told → List PartM → Option Told
  | T, [] => some T
  | T, p :: ps => (partStepW n w T p).bind (fun T' => partStepsW n w T' ps)

def halfPartW (L : WLines) (d : Nat) (p : PartM) : PartM := (p.1 + 1, p.2.1 + d * 2 ^ p.1, combined p.2.2 (L.rows d))

def nextLevelW (L : WLines) (fresh : List PartM) : List PartM := fresh.map (halfPartW L 0) ++ fresh.map (halfPartW L 1)

/-- with fuel; none where it does not end by then or a check fails -/
def toldRun (n : Nat) (L : WLines) : Nat → Told → List PartM → Option Told
  | _, T, [] => some T
  | 0, _, _ :: _ => none
  | fuel + 1, T, p :: ps =>
    (partStepsW n L.starts.length { T with fresh := [] } (p :: ps)).bind (fun T' => toldRun n L fuel T' (nextLevelW L T'.fresh))

def toldOf (n : Nat) (L : WLines) (mix : Row) : Option Told := toldRun n L 40 ⟨[], [], [], []⟩ [(0, 0, mix)]

def lookKnown : List ((Nat × Nat) × Fracs) → Nat × Nat → Option Fracs
  | [], _ => none
  | (k, v) :: l, x => if k = x then some v else lookKnown l x

def fracAt (f : Fracs) (i : Nat) : Int × Int := ((f.find? (fun p => p.1 == i)).map (·.2)).getD (0, 1)
def filledW (f : Fracs) (many : Nat) : List (Int × Int) := (List.range many).map (fracAt f)

structure Rule where
  basis : List (Nat × Nat)
  rows : List (List (Int × Int) × List (Int × Int))
  firsts : List Int
deriving DecidableEq

def ruleRow (T : Told) (p : PartM) : Option (List (Int × Int) × List (Int × Int)) :=
  match lookKnown T.known (p.1 + 1, p.2.1), lookKnown T.known (p.1 + 1, p.2.1 + 2 ^ p.1) with
  | some e, some o => some (filledW e T.parts.length, filledW o T.parts.length)
  | _, _ => none

def ruleRows (T : Told) : List PartM → Option (List (List (Int × Int) × List (Int × Int)))
  | [] => some []
  | p :: ps => match ruleRow T p, ruleRows T ps with
    | some x, some xs => some (x :: xs)
    | _, _ => none

def ruleOf (n : Nat) (L : WLines) (mix : Row) : Option Rule :=
  match toldOf n L mix with
  | none => none
  | some T => match ruleRows T T.parts with
    | none => none
    | some rows => some ⟨T.parts.map (fun p => (p.1, p.2.1)), rows, T.parts.map (fun p => sumOf p.2.2 L.starts)⟩

def numberLines : WLines := ⟨[[(0, 2)], [(1, 1)]], [[(0, 2), (1, 1)], [(1, 1)]], [0, 1]⟩
theorem number_rule : ruleOf 40 numberLines [(0, 1)] = some ⟨[(0, 0), (1, 1)], [([(2, 1), (0, 1)], [(0, 1), (1, 1)]), ([(2, 1), (1, 1)], [(-2, 1), (3, 1)])], [0, 1]⟩ := by decide +kernel

end L2.Halves
end S_HalvesTellB
section S_S0
set_option maxRecDepth 100000
set_option maxHeartbeats 4000000
namespace L2.EH
open PySem PySem.Spec PyProof.Rows
def tp (i : Nat) : Stmt := PySem.Challenge.pw_halverules_k02_constants_n_and_singles.main.body.getD i (.Pass ⟨0, 0, 0, 0⟩)
abbrev sInvalidNumberInit : Stmt := inClass (tp 3) 0
abbrev sIsInteger : Stmt := tp 10
abbrev sIsBetween : Stmt := tp 11
abbrev sIsNumber : Stmt := tp 12
abbrev sBrokenInit : Stmt := inClass (tp 14) 0
abbrev sLowest : Stmt := tp 15
abbrev sShareOf : Stmt := tp 16
abbrev sCombinedShare : Stmt := tp 17
abbrev sHalfShare : Stmt := tp 18
abbrev sIsWhole : Stmt := tp 19
abbrev sLinesInit : Stmt := inClass (tp 22) 0
abbrev sMoved : Stmt := tp 23
abbrev sCombined : Stmt := tp 24
abbrev sHalfMix : Stmt := tp 25
abbrev sMixRests : Stmt := tp 26
abbrev sLineRests : Stmt := tp 27
abbrev sSumOf : Stmt := tp 28
abbrev sStepped : Stmt := tp 29
abbrev sNext : Stmt := tp 30
abbrev sValuesAt : Stmt := tp 31
abbrev sValuesFar : Stmt := tp 32
abbrev sRankBound : Stmt := tp 35
abbrev sRestBy : Stmt := tp 36
abbrev sSomeParts : Stmt := tp 37
abbrev sColumnRank : Stmt := tp 38
abbrev sSparse : Stmt := tp 40
abbrev sTrimmed : Stmt := tp 41
abbrev sCleared : Stmt := tp 42
abbrev sReduced : Stmt := tp 43
abbrev sLeastIx : Stmt := tp 44
abbrev sSettled : Stmt := tp 45
abbrev sRowProduct : Stmt := tp 46
abbrev sLessened : Stmt := tp 48
abbrev sLeftOver : Stmt := tp 49
abbrev sWidened : Stmt := tp 50
abbrev sSmallRows : Stmt := tp 51
abbrev sExactValues : Stmt := tp 52
abbrev sValueLattice : Stmt := tp 53
abbrev sFactorsIn : Stmt := tp 55
abbrev sWholeLines : Stmt := tp 56
abbrev sWholeHalf : Stmt := tp 57
abbrev sFewestLines : Stmt := tp 59
abbrev sReached : Stmt := tp 60
abbrev sKeptLines : Stmt := tp 61
abbrev sPlaced : Stmt := tp 62
abbrev sIndependent : Stmt := tp 63
abbrev sValueSpan : Stmt := tp 64
abbrev sShareIn : Stmt := tp 65
abbrev sPartsOnly : Stmt := tp 66
abbrev sPartSpan : Stmt := tp 67
abbrev sShareBy : Stmt := tp 68
abbrev sLeastRule : Stmt := tp 70
abbrev sTold : Stmt := tp 71
abbrev sHalfPart : Stmt := tp 72
abbrev sCombination : Stmt := tp 73
abbrev sFraction : Stmt := tp 74
abbrev sFilled : Stmt := tp 75
abbrev sPartsInit : Stmt := inClass (tp 77) 0
abbrev sRestParts : Stmt := tp 79
abbrev sValueLattice2 : Stmt := tp 80
abbrev sHalfRows : Stmt := tp 82
abbrev sBeside : Stmt := tp 84
abbrev sCrossed : Stmt := tp 85
abbrev sCrossedMix : Stmt := tp 86
abbrev sOffsetsOf : Stmt := tp 87
abbrev sThinned : Stmt := tp 88
abbrev sThinnedHalf : Stmt := tp 89
abbrev sValuesFrom : Stmt := tp 90
abbrev sSpread : Stmt := tp 91
abbrev sSpreadMix : Stmt := tp 92
abbrev sSpreadEverywhere : Stmt := tp 93
abbrev sHInit : Stmt := inClass (tp 95) 0
abbrev sHRank : Stmt := inClass (tp 95) 1
abbrev sHBasis : Stmt := inClass (tp 95) 2
abbrev sHEquations : Stmt := inClass (tp 95) 3
abbrev sHFirsts : Stmt := inClass (tp 95) 4
abbrev sHCall : Stmt := inClass (tp 95) 5
abbrev sHAdd : Stmt := inClass (tp 95) 6
abbrev sHRadd : Stmt := inClass (tp 95) 7
abbrev sHSub : Stmt := inClass (tp 95) 8
abbrev sHRsub : Stmt := inClass (tp 95) 9
abbrev sHMul : Stmt := inClass (tp 95) 10
abbrev sHRmul : Stmt := inClass (tp 95) 11
abbrev sHNeg : Stmt := inClass (tp 95) 12
abbrev sHPow : Stmt := inClass (tp 95) 13
abbrev sHLshift : Stmt := inClass (tp 95) 14
abbrev sHRshift : Stmt := inClass (tp 95) 15
abbrev sHFloordiv : Stmt := inClass (tp 95) 16
abbrev sHMod : Stmt := inClass (tp 95) 17
abbrev sHGetitem : Stmt := inClass (tp 95) 18
abbrev sHIter : Stmt := inClass (tp 95) 19
abbrev sHEqual : Stmt := inClass (tp 95) 20
abbrev sHBool : Stmt := inClass (tp 95) 21
abbrev sHStr : Stmt := inClass (tp 95) 22
abbrev sHRepr : Stmt := inClass (tp 95) 23
abbrev sAsFunction : Stmt := tp 96
abbrev sAsBounded : Stmt := tp 97
abbrev sIsStepAndStart : Stmt := tp 98
abbrev sFunctionOf : Stmt := tp 99
abbrev sFunctionOfParts : Stmt := tp 100
abbrev sOfBasis : Stmt := tp 101
abbrev sWholeRow : Stmt := tp 102
abbrev sScaled : Stmt := tp 103
abbrev sSummed : Stmt := tp 104
abbrev sMultiplied : Stmt := tp 105
abbrev sStepped2 : Stmt := tp 106
abbrev sSlowed : Stmt := tp 107
abbrev sRested : Stmt := tp 108
abbrev sConstant : Stmt := tp 109
abbrev sNumber : Stmt := tp 110
abbrev sSingle : Stmt := tp 111
abbrev sCell : Stmt := tp 113
abbrev sPurse : Stmt := tp 114
abbrev sDraw : Stmt := tp 115
abbrev sOf : Stmt := tp 116
abbrev sFar : Stmt := tp 117
abbrev sIs : Stmt := tp 118
abbrev sHeads : Stmt := tp 119
abbrev sOneAt : Stmt := tp 120
abbrev sRuleOfSingle : Stmt := tp 121
abbrev sShown : Stmt := tp 122
abbrev sTooMany : Stmt := tp 123
abbrev sConstRight : Stmt := tp 124
abbrev sSingleRight : Stmt := tp 125
abbrev sRight : Stmt := tp 126
abbrev sLaw : Stmt := tp 127
def big : Int := ((10 : Int) ^ 60) ^ 5
end L2.EH
end S_S0
section S_M1
set_option maxRecDepth 100000
set_option maxHeartbeats 0
namespace L2.EH
open PySem PySem.Spec PyProof.Rows L2
/-! ### a hook of one's own: a def stands at an address that a path tells -/
structure DP where
  pl : PySem.W.Frag → Addr
  name : Str
  qual : Str
  st : Stmt
def fnP (K : PySem.W.Frag) (a : Addr) : He.FnW := match K.lookup a with
  | some ⟨_, _, .func fd, _⟩ => some (fd.name, fd.qualname, fd.params, fd.body, fd.scope, fd.globals, fd.closure, fd.builtins)
  | _ => none
def DP.val (d : DP) : He.FnW := some (d.name, d.qual, defArgs d.st, .stmts (defBody d.st), defScope d.st, mainGlobals, [], builtinsNs)
def noneV : Value → Bool
  | .none => true
  | _ => false
theorem noneV_ok {v : Value} (h : noneV v = true) : v = .none := by
  cases v <;> first | rfl | cases h
def DP.ok (K : PySem.W.Frag) (d : DP) : Bool := PySem.W.keepIn K (.ref (d.pl K)) && (match K.lookup (d.pl K) with
  | some ⟨_, _, .func fd, _⟩ => PySem.W.codeIn K fd.code d.qual && noneV fd.defaults
  | _ => false)
theorem DP.fun_ {K : PySem.W.Frag} {d : DP} (w1 : fnP K (d.pl K) = d.val) (w2 : d.ok K = true) : ∃ fd, Fun K d.name d.qual d.st (d.pl K) fd := by
  have w3 := Bool.and_eq_true_iff.mp w2
  have kept := w3.1
  have w4 := w3.2
  unfold fnP at w1
  rcases look : K.lookup (d.pl K) with _ | ⟨oc, od, dt, osl⟩
  · rw [look] at w4; cases w4
  · rw [look] at w4 w1
    cases dt with
    | func fd =>
      rcases fd with ⟨a1, a2, a3, a4, a5, a6, a7, a8, a9, a10, a11, a12, a13, a14, a15⟩
      have w5 : (some (a1, a2, a3, a4, a5, a6, a7, a15) : He.FnW) = some (d.name, d.qual, defArgs d.st, .stmts (defBody d.st), defScope d.st, mainGlobals, [], builtinsNs) := w1
      have w6 := Option.some.inj w5
      simp only [Prod.mk.injEq] at w6
      obtain ⟨z1, z2, z3, z4, z5, z6, z7, z8⟩ := w6
      subst z1 z2 z3 z4 z5 z6 z7 z8
      have w7 : (PySem.W.codeIn K a13 d.qual && noneV a8) = true := w4
      obtain ⟨w8, w9⟩ := Bool.and_eq_true_iff.mp w7
      obtain rfl := noneV_ok w9
      exact ⟨_, ⟨oc, od, a9, a10, a11, a12, a13, a14, osl, rfl, look, w8⟩, kept⟩
    | _ => cases w4
abbrev AlP : Type := Bool × List He.FnW
def obsP (ex : PySem.W.Frag → Bool) (fn : List DP) (K : PySem.W.Frag) : AlP := (ex K && fn.all fun d => d.ok K, fn.map fun d => fnP K (d.pl K))
def valP (fn : List DP) : AlP := (true, fn.map DP.val)
def SaysP (ex : PySem.W.Frag → Bool) (fn : List DP) (K : PySem.W.Frag) : Prop := obsP ex fn K = valP fn
def obsPG (n : Nat) (ex : PySem.W.Frag → Bool) (fn : List DP) (g : Addr → Option Obj) : AlP := obsP ex fn (He.frG g (He.asD g n))
def hookP (n : Nat) (ex : PySem.W.Frag → Bool) (fn : List DP) : PySem.W.Hook where
  α := AlP
  obs := fun s => obsPG n ex fn s.heap.get?
  val := fun _ => valP fn
  says := fun _ h => ∃ K : PySem.W.Frag, K.In h ∧ SaysP ex fn K
  of := fun _ _ e => ⟨_, He.frG_in, e⟩
  keeps := fun _ _ _ ⟨K, hK, c⟩ k => ⟨K, PySem.W.Frag.In.keeps hK k, c⟩
theorem obsPG_eq {n : Nat} {ex : PySem.W.Frag → Bool} {fn : List DP} {g : Addr → Option Obj} {s : Shared} (h : ∀ a, g a = s.heap.get? a) : obsPG n ex fn g = (hookP n ex fn).obs s := by
  obtain rfl : g = s.heap.get? := funext h
  rfl
theorem SaysP.ex {ex : PySem.W.Frag → Bool} {fn : List DP} {K : PySem.W.Frag} (c : SaysP ex fn K) : ex K = true := (Bool.and_eq_true_iff.mp (show (ex K && fn.all fun d => d.ok K) = true from congrArg (fun z : AlP => z.1) c)).1
theorem SaysP.def_ {ex : PySem.W.Frag → Bool} {fn : List DP} {K : PySem.W.Frag} (c : SaysP ex fn K) (i : Nat) {d : DP} (h : fn[i]? = some d := by rfl) : ∃ fd, Fun K d.name d.qual d.st (d.pl K) fd := by
  have c2 := (Bool.and_eq_true_iff.mp (show (ex K && fn.all fun d => d.ok K) = true from congrArg (fun z : AlP => z.1) c)).2
  have c3 : fn.map (fun d => fnP K (d.pl K)) = fn.map DP.val := congrArg (fun z : AlP => z.2) c
  have c4 : (fn.map fun d => fnP K (d.pl K))[i]? = (fn.map DP.val)[i]? := by rw [c3]
  rw [List.getElem?_map, List.getElem?_map, h] at c4
  exact DP.fun_ (Option.some.inj c4) (List.all_eq_true.mp c2 d (List.mem_of_getElem? h))
/-! ### the defs of this row -/
def gl (x : Str) : PySem.W.Frag → Addr := fun K => He.ga K x
def mth (C m : Str) : PySem.W.Frag → Addr := fun K => He.ma K (He.ga K C) m
def prp (C f : Str) : PySem.W.Frag → Addr := fun K => match PySem.W.recIn K (He.ma K (He.ga K C) f) "property" with
  | some (.ref g :: _) => g
  | _ => 0
def plain (x : Str) (st : Stmt) : DP := ⟨gl x, x, x, st⟩
def fnA : List DP := [plain "is_integer" sIsInteger, plain "is_between" sIsBetween, plain "is_number" sIsNumber, plain "combined" sCombined, plain "half_mix" sHalfMix, plain "sum_of" sSumOf, plain "stepped_values" sStepped, plain "next_values" sNext, plain "values_at" sValuesAt, plain "values_far_out" sValuesFar]
def fnB : List DP := [plain "sparse" sSparse, plain "trimmed" sTrimmed, plain "cleared" sCleared, plain "reduced" sReduced, plain "least_index" sLeastIx, plain "least_rule" sLeastRule, plain "told_parts" sTold, plain "half_part" sHalfPart, plain "combination" sCombination, plain "fraction" sFraction, plain "filled" sFilled]
def fnC : List DP := [plain "function_of_basis" sOfBasis, plain "whole_row" sWholeRow, plain "constant" sConstant, plain "number" sNumber, plain "single" sSingle, plain "_law_cell" sCell, plain "_law_purse" sPurse, plain "_law_draw" sDraw, plain "_law_of" sOf, plain "_law_far" sFar, plain "_law_is" sIs]
def fnD : List DP := [plain "_law_heads" sHeads, plain "_law_one_at" sOneAt, plain "_law_rule_of_single" sRuleOfSingle, plain "_law_shown" sShown, plain "_law_too_many" sTooMany, plain "_law_constant_right" sConstRight, plain "_law_single_right" sSingleRight, plain "_law_right" sRight, plain "law" sLaw]
def fnE : List DP := [⟨mth "Lines" "__init__", "__init__", "Lines.__init__", sLinesInit⟩, ⟨mth "Halved" "__init__", "__init__", "Halved.__init__", sHInit⟩, ⟨prp "Halved" "rank", "rank", "Halved.rank", sHRank⟩, ⟨prp "Halved" "basis", "basis", "Halved.basis", sHBasis⟩, ⟨prp "Halved" "equations", "equations", "Halved.equations", sHEquations⟩,
  ⟨prp "Halved" "firsts", "firsts", "Halved.firsts", sHFirsts⟩, ⟨mth "Halved" "__call__", "__call__", "Halved.__call__", sHCall⟩, ⟨mth "Halved" "__eq__", "__eq__", "Halved.__eq__", sHEqual⟩]
def fnAll : List DP := fnA ++ (fnB ++ (fnC ++ (fnD ++ fnE)))
end L2.EH
end S_M1
section S_M2
set_option maxRecDepth 100000
set_option maxHeartbeats 0
namespace L2.EH
open PySem PySem.Spec PyProof.Rows L2
def frees : List Str := ("len" : Str) :: ("range" : Str) :: ("enumerate" : Str) :: ("zip" : Str) :: ("tuple" : Str) :: ("list" : Str) :: ("int" : Str) :: ("bool" : Str) :: ("abs" : Str) :: ("str" : Str) :: ("isinstance" : Str) :: ("any" : Str) :: ("all" : Str) :: ("max" : Str) :: ("min" : Str) :: ("reversed" : Str) :: ("sum" : Str) :: ("dict" : Str) :: []
def intB (K : PySem.W.Frag) (x : Str) (i : Int) : Bool := match PySem.W.nsIn K mainGlobals x with
  | some (some (.int j _)) => decide (j = i)
  | _ => false
def aeBase : List Value := [.type "ArithmeticError", .type "Exception", .type "BaseException", .type "object"]
def propB (K : PySem.W.Frag) (C f : Str) : Bool := He.eqO (PySem.W.findIn K (.ref (He.ga K C)) f) (some (some (.ref (He.ma K (He.ga K C) f)))) && (He.eqO (PySem.W.specialIn K (.ref (He.ma K (He.ga K C) f)) "__get__") (some (some (.builtin "property.__get__"))) &&
  (decide (PySem.W.takesIn K (.ref (He.ma K (He.ga K C) f)) = some true) && (match PySem.W.recIn K (He.ma K (He.ga K C) f) "property" with
    | some (.ref _ :: _) => true
    | _ => false)))
def factsB (K : PySem.W.Frag) : List Bool :=
  [He.eqO (PySem.W.nsIn K mainGlobals "gcd") (some (some (.builtin "math.gcd"))), intB K "RANK" 16, intB K "MANY_DIGITS" 30, intB K "LARGEST" big] ++
  ([(He.Fa.glo "Lines").ok K, (He.Fa.cls "Lines").ok K, (He.Fa.noat "Lines" "halves").ok K, (He.Fa.noat "Lines" "starts").ok K, (He.Fa.mkr "Lines").ok K] ++
  ([(He.Fa.glo "Halved").ok K, (He.Fa.cls "Halved").ok K, (He.Fa.noat "Halved" "lines").ok K, (He.Fa.noat "Halved" "mix").ok K, (He.Fa.noat "Halved" "_basis").ok K, (He.Fa.noat "Halved" "_equations").ok K, (He.Fa.noat "Halved" "_firsts").ok K, (He.Fa.mkr "Halved").ok K] ++
  ([He.eqO (PySem.W.findIn K (.ref (He.ga K "Halved")) "__class__") (some (some (.builtin "object.__class__"))), He.eqO (PySem.W.specialIn K (.builtin "object.__class__") "__get__") (some (some (.builtin "getset_descriptor.__get__"))), decide (PySem.W.takesIn K (.builtin "object.__class__") = some true),
    decide (PySem.W.mroIn K (He.ga K "Halved") (.type "object") = some true), decide (PySem.W.kitOne K (.ref (He.ga K "Halved")) (.ref (He.ga K "Halved")) = some true)] ++
  ([propB K "Halved" "rank", propB K "Halved" "basis", propB K "Halved" "equations", propB K "Halved" "firsts"] ++
  ([He.eqO (PySem.W.findIn K (.ref (He.ga K "Halved")) "__call__") (some (some (.ref (He.ma K (He.ga K "Halved") "__call__")))), PySem.W.isFn K (.ref (He.ma K (He.ga K "Halved") "__call__")), PySem.W.fnIn K (He.ma K (He.ga K "Halved") "__call__"),
    He.eqO (PySem.W.findIn K (.ref (He.ga K "Halved")) "__eq__") (some (some (.ref (He.ma K (He.ga K "Halved") "__eq__")))), PySem.W.isFn K (.ref (He.ma K (He.ga K "Halved") "__eq__"))] ++
  [(He.Fa.glo "TooMany").ok K, PySem.W.excIn K (He.ga K "TooMany") aeBase "ArithmeticError.__new__", PySem.W.keepIn K (.ref (He.ga K "TooMany")), decide (PySem.W.subIn K (.ref (He.ga K "TooMany")) (.type "BaseException") = some true), decide (PySem.W.typeIn K (.ref (He.ga K "TooMany")) = some (.type "type")), decide (PySem.W.exmOne K (.ref (He.ga K "TooMany")) (.ref (He.ga K "TooMany")) = some true)])))))
def globs (fn : List DP) : List Str := fn.map (·.name)
def exB (K : PySem.W.Frag) : Bool := (frees.all fun x => (He.Fa.free x).ok K) && (((globs (fnA ++ (fnB ++ (fnC ++ fnD)))).all fun x => (He.Fa.glo x).ok K) && (factsB K).all id)
abbrev RW : PySem.W.OpenRow := PySem.W.OpenLaw.row PySem.Challenge.rw_halverules_k02_constants_n_and_singles
abbrev hk : PySem.W.Hook := hookP 5 exB fnAll
def ob (s : PySem.W.SharedT) : AlP := obsPG 5 exB fnAll (HandSHeadRun.getT s)
theorem ob_eq (s : PySem.W.SharedT) : ob s = hk.obs s.abs := obsPG_eq (HandSHeadRun.getT_eq s)
end L2.EH
end S_M2
section S_M3
set_option maxRecDepth 100000
set_option maxHeartbeats 0
namespace L2.EH
open PySem PySem.W PySem.Calls PyProof.Rows
/-! ### where the top leaves its objects -/
def at0 : List Addr := [3, 6, 4, 52, 72, 84, 97, 106, 113, 120, 137, 146, 151, 158, 165, 170, 187, 196, 201, 208, 213, 218, 223, 228, 235, 242, 247, 254, 259, 264, 269, 274, 279, 286, 293, 300, 307, 312, 317, 324]
def at1 : List Addr := [331, 338, 343, 486, 350, 357, 362, 367, 372, 377, 382, 387, 392, 399, 404, 409, 416, 421, 426, 431, 438, 443, 450, 455, 472, 481, 491, 496, 501, 506, 513, 518, 523, 530, 535, 542, 547, 729, 740, 747]
def at2 : List Addr := [754, 761, 766, 771, 776, 781, 788, 795, 802, 809, 816, 823, 830, 835, 842, 849, 856, 863, 870, 877, 884, 889, 894, 901, 908, 913, 918, 923, 928, 0, 51, 71, 83, 96, 105, 112, 119, 136, 145, 150]
def at3 : List Addr := [157, 164, 169, 186, 195, 200, 207, 212, 217, 222, 227, 234, 241, 246, 253, 258, 263, 268, 273, 278, 285, 292, 299, 306, 311, 316, 323, 330, 337, 342, 485, 349, 356, 361, 366, 371, 376, 381, 386, 391]
def at4 : List Addr := [398, 403, 408, 415, 420, 425, 430, 437, 442, 449, 454, 471, 480, 490, 495, 500, 505, 512, 517, 522, 529, 534, 541, 546, 728, 739, 746, 753, 760, 765, 770, 775, 780, 787, 794, 801, 808, 815, 822, 829]
def at5 : List Addr := [834, 841, 848, 855, 862, 869, 876, 883, 888, 893, 900, 907, 912, 917, 922, 927, 50, 53, 69, 70, 82, 85, 95, 100, 101, 102, 103, 104, 107, 108, 109, 110, 111, 114, 115, 116, 117, 118, 134, 135]
def at6 : List Addr := [138, 139, 142, 143, 144, 147, 148, 149, 152, 153, 154, 155, 156, 159, 160, 161, 162, 163, 166, 167, 168, 184, 185, 188, 189, 192, 193, 194, 197, 198, 199, 202, 203, 204, 205, 206, 209, 210, 211, 214]
def at7 : List Addr := [215, 216, 219, 220, 221, 224, 225, 226, 229, 230, 231, 232, 233, 236, 237, 238, 239, 240, 243, 244, 245, 248, 249, 250, 251, 252, 255, 256, 257, 260, 261, 262, 265, 266, 267, 270, 271, 272, 275, 276]
def at8 : List Addr := [277, 280, 281, 282, 283, 284, 287, 288, 289, 290, 291, 294, 295, 296, 297, 298, 301, 302, 303, 304, 305, 308, 309, 310, 313, 314, 315, 318, 319, 320, 321, 322, 325, 326, 327, 328, 329, 332, 333, 334]
def at9 : List Addr := [335, 336, 339, 340, 341, 482, 483, 484, 344, 345, 346, 347, 348, 351, 352, 353, 354, 355, 358, 359, 360, 363, 364, 365, 368, 369, 370, 373, 374, 375, 378, 379, 380, 383, 384, 385, 388, 389, 390, 393]
def at10 : List Addr := [394, 395, 396, 397, 400, 401, 402, 405, 406, 407, 410, 411, 412, 413, 414, 417, 418, 419, 422, 423, 424, 427, 428, 429, 432, 433, 434, 435, 436, 439, 440, 441, 444, 445, 446, 447, 448, 451, 452, 453]
def at11 : List Addr := [469, 470, 473, 474, 477, 478, 479, 487, 488, 489, 492, 493, 494, 497, 498, 499, 502, 503, 504, 507, 508, 509, 510, 511, 514, 515, 516, 519, 520, 521, 524, 525, 526, 527, 528, 531, 532, 533, 536, 537]
def at12 : List Addr := [538, 539, 540, 543, 544, 545, 561, 569, 577, 585, 593, 600, 607, 614, 621, 628, 635, 642, 649, 656, 663, 670, 677, 684, 691, 698, 705, 712, 719, 726, 727, 730, 731, 734, 735, 736, 737, 738, 741, 742]
def at13 : List Addr := [743, 744, 745, 748, 749, 750, 751, 752, 755, 756, 757, 758, 759, 762, 763, 764, 767, 768, 769, 772, 773, 774, 777, 778, 779, 782, 783, 784, 785, 786, 789, 790, 791, 792, 793, 796, 797, 798, 799, 800]
def at14 : List Addr := [803, 804, 805, 806, 807, 810, 811, 812, 813, 814, 817, 818, 819, 820, 821, 824, 825, 826, 827, 828, 831, 832, 833, 836, 837, 838, 839, 840, 843, 844, 845, 846, 847, 850, 851, 852, 853, 854, 857, 858]
def at15 : List Addr := [859, 860, 861, 864, 865, 866, 867, 868, 871, 872, 873, 874, 875, 878, 879, 880, 881, 882, 885, 886, 887, 890, 891, 892, 895, 896, 897, 898, 899, 902, 903, 904, 905, 906, 909, 910, 911, 914, 915, 916]
def at16 : List Addr := [919, 920, 921, 924, 925, 926, 68, 133, 183, 468, 560, 568, 576, 584, 592, 599, 606, 613, 620, 627, 634, 641, 648, 655, 662, 669, 676, 683, 690, 697, 704, 711, 718, 725, 63, 64, 65, 66, 67, 128]
def at17 : List Addr := [129, 130, 131, 132, 178, 179, 180, 181, 182, 463, 464, 465, 466, 467, 555, 556, 557, 558, 559, 567, 575, 583, 591, 594, 595, 596, 597, 598, 601, 602, 603, 604, 605, 608, 609, 610, 611, 612, 615, 616]
def at18 : List Addr := [617, 618, 619, 622, 623, 624, 625, 626, 629, 630, 631, 632, 633, 636, 637, 638, 639, 640, 643, 644, 645, 646, 647, 650, 651, 652, 653, 654, 657, 658, 659, 660, 661, 664, 665, 666, 667, 668, 671, 672]
def at19 : List Addr := [673, 674, 675, 678, 679, 680, 681, 682, 685, 686, 687, 688, 689, 692, 693, 694, 695, 696, 699, 700, 701, 702, 703, 706, 707, 708, 709, 710, 713, 714, 715, 716, 717, 720, 721, 722, 723, 724]
def ats : List Addr := at0 ++ (at1 ++ (at2 ++ (at3 ++ (at4 ++ (at5 ++ (at6 ++ (at7 ++ (at8 ++ (at9 ++ (at10 ++ (at11 ++ (at12 ++ (at13 ++ (at14 ++ (at15 ++ (at16 ++ (at17 ++ (at18 ++ (at19)))))))))))))))))))
def obsL (ex : PySem.W.Frag → Bool) (fn : List DP) (g : Addr → Option Obj) : AlP := obsP ex fn (He.frG g ats)
def hookL (ex : PySem.W.Frag → Bool) (fn : List DP) : PySem.W.Hook where
  α := AlP
  obs := fun s => obsL ex fn s.heap.get?
  val := fun _ => valP fn
  says := fun _ h => ∃ K : PySem.W.Frag, K.In h ∧ SaysP ex fn K
  of := fun _ _ e => ⟨_, He.frG_in, e⟩
  keeps := fun _ _ _ ⟨K, hK, c⟩ k => ⟨K, PySem.W.Frag.In.keeps hK k, c⟩
theorem obsL_eq {ex : PySem.W.Frag → Bool} {fn : List DP} {g : Addr → Option Obj} {s : Shared} (h : ∀ a, g a = s.heap.get? a) : obsL ex fn g = (hookL ex fn).obs s := by
  obtain rfl : g = s.heap.get? := funext h
  rfl
abbrev hkL : PySem.W.Hook := hookL exB fnAll
def obL (s : PySem.W.SharedT) : AlP := obsL exB fnAll (HandSHeadRun.getT s)
theorem obL_eq (s : PySem.W.SharedT) : obL s = hkL.obs s.abs := obsL_eq (HandSHeadRun.getT_eq s)
def n0 : List PySem.Str := ("__name__" : PySem.Str) :: ("InputError" : PySem.Str) :: ("InvalidNumber" : PySem.Str) :: ("LimitError" : PySem.Str) :: ("TooMany" : PySem.Str) :: ("RANK" : PySem.Str) :: ("LARGEST" : PySem.Str) :: ("TOGETHER" : PySem.Str) :: ("is_integer" : PySem.Str) :: ("is_between" : PySem.Str) :: ("is_number" : PySem.Str) :: ("BrokenLines" : PySem.Str) :: ("lowest" : PySem.Str) :: ("share_of" : PySem.Str) :: ("combined_share" : PySem.Str) :: ("half_share" : PySem.Str) :: ("is_whole" : PySem.Str) :: ("MANY_DIGITS" : PySem.Str) :: ("Lines" : PySem.Str) :: ("moved" : PySem.Str) :: ("combined" : PySem.Str) :: ("half_mix" : PySem.Str) :: ("mix_rests" : PySem.Str) :: ("line_rests" : PySem.Str) :: ("sum_of" : PySem.Str) :: ("stepped_values" : PySem.Str) :: ("next_values" : PySem.Str) :: ("values_at" : PySem.Str) :: ("values_far_out" : PySem.Str) :: ("PRIME" : PySem.Str) :: ("rank_bound" : PySem.Str) :: ("rest_by" : PySem.Str) :: ("some_parts" : PySem.Str) :: ("column_rank" : PySem.Str) :: ("sparse" : PySem.Str) :: ("trimmed" : PySem.Str) :: ("cleared" : PySem.Str) :: ("reduced" : PySem.Str) :: []
def n1 : List PySem.Str := ("least_index" : PySem.Str) :: ("settled" : PySem.Str) :: ("row_product" : PySem.Str) :: ("lessened" : PySem.Str) :: ("left_over" : PySem.Str) :: ("widened" : PySem.Str) :: ("small_rows" : PySem.Str) :: ("exact_values" : PySem.Str) :: ("value_lattice" : PySem.Str) :: ("value_lattice_whole" : PySem.Str) :: ("factors_in" : PySem.Str) :: ("whole_lines" : PySem.Str) :: ("whole_half" : PySem.Str) :: ("fewest_lines" : PySem.Str) :: ("reached" : PySem.Str) :: ("kept_lines" : PySem.Str) :: ("placed" : PySem.Str) :: ("independent" : PySem.Str) :: ("value_span" : PySem.Str) :: ("share_in" : PySem.Str) :: ("parts_only" : PySem.Str) :: ("part_span" : PySem.Str) :: ("share_by" : PySem.Str) :: ("least_rule" : PySem.Str) :: ("told_parts" : PySem.Str) :: ("half_part" : PySem.Str) :: ("combination" : PySem.Str) :: ("fraction" : PySem.Str) :: ("filled" : PySem.Str) :: ("Parts" : PySem.Str) :: ("rest_parts" : PySem.Str) :: ("value_lattice_rests" : PySem.Str) :: ("half_rows" : PySem.Str) :: ("beside" : PySem.Str) :: ("crossed" : PySem.Str) :: ("crossed_mix" : PySem.Str) :: ("offsets_of" : PySem.Str) :: ("thinned" : PySem.Str) :: []
def n2 : List PySem.Str := ("thinned_half" : PySem.Str) :: ("values_from" : PySem.Str) :: ("spread" : PySem.Str) :: ("spread_mix" : PySem.Str) :: ("spread_everywhere" : PySem.Str) :: ("Halved" : PySem.Str) :: ("as_function" : PySem.Str) :: ("as_bounded" : PySem.Str) :: ("is_step_and_start" : PySem.Str) :: ("function_of" : PySem.Str) :: ("function_of_parts" : PySem.Str) :: ("function_of_basis" : PySem.Str) :: ("whole_row" : PySem.Str) :: ("scaled" : PySem.Str) :: ("summed" : PySem.Str) :: ("multiplied" : PySem.Str) :: ("stepped" : PySem.Str) :: ("slowed" : PySem.Str) :: ("rested" : PySem.Str) :: ("constant" : PySem.Str) :: ("number" : PySem.Str) :: ("single" : PySem.Str) :: ("_law_cell" : PySem.Str) :: ("_law_purse" : PySem.Str) :: ("_law_draw" : PySem.Str) :: ("_law_of" : PySem.Str) :: ("_law_far" : PySem.Str) :: ("_law_is" : PySem.Str) :: ("_law_heads" : PySem.Str) :: ("_law_one_at" : PySem.Str) :: ("_law_rule_of_single" : PySem.Str) :: ("_law_shown" : PySem.Str) :: ("_law_too_many" : PySem.Str) :: ("_law_constant_right" : PySem.Str) :: ("_law_single_right" : PySem.Str) :: ("_law_right" : PySem.Str) :: []
def names : List PySem.Str := n0 ++ n1 ++ n2
/-- the run, boot and imports and all -/
noncomputable def whole (w : World) := HandSHeadRun.wholeF (fun p => HandSHeadRun.stepQ (HandSHeadRun.denQ HandSHeadRun.tabQ) p w) HandSHeadRun.fenceQ 7000 RW.prog
noncomputable def frK (s : SharedT) : PySem.W.Frag := He.frG (HandSHeadRun.getT s) ats
abbrev vw : Program := PySem.W.view RW.prog [0, 127]
end L2.EH
end S_M3
section S_M3r
set_option maxRecDepth 100000
set_option maxHeartbeats 0
namespace L2.EH
open PySem PySem.W PySem.Calls PyProof.Rows
theorem run_a (w : World) : (whole w).map (fun x => (HandSHeadRun.looksF RW.prog x.1.heap x.2.abs, HandSHeadRun.seenQ vw names (importedModules RW.prog.main.body) (fun s => xlAt vw [] s && recOk RW.toRowW.records s) x.2.abs)) = some (true, openGood vw names) := by
  kernel_rfl
theorem run_b (w : World) : (whole w).map (fun x => obL x.2) = some (valP fnAll) := by
  kernel_rfl
theorem map_two {α β γ : Type} {o : Option α} {f : α → β} {g : α → γ} {b : β} {c : γ} (h1 : o.map f = some b) (h2 : o.map g = some c) : ∃ x, o = some x ∧ f x = b ∧ g x = c := by
  obtain ⟨x, e, h⟩ := Option.map_eq_some_iff.mp h1
  obtain ⟨y, e', h'⟩ := Option.map_eq_some_iff.mp h2
  rw [e] at e'
  cases e'
  exact ⟨x, e, h, h'⟩
theorem run (w : World) : HandSHeadRun.RunEqI RW vw hkL obL 7000 names w := by
  unfold HandSHeadRun.RunEqI
  obtain ⟨x, e, h1, h2⟩ := map_two (run_a w) (run_b w)
  have e' : HandSHeadRun.wholeF (fun p => HandSHeadRun.stepQ (HandSHeadRun.denQ HandSHeadRun.tabQ) p w) HandSHeadRun.fenceQ 7000 RW.prog = some x := e
  rw [e']
  have h3 := Prod.mk.inj h1
  show some _ = some _
  exact congrArg some (Prod.ext h3.1 (Prod.ext h3.2 h2))
end L2.EH
end S_M3r
section S_M3h
set_option maxRecDepth 100000
set_option maxHeartbeats 0
namespace L2.EH
open PySem PySem.W PySem.Calls PyProof.Rows
/-- the law holds if the facts that the head leaves give its def's promise -/
theorem head_gives
    (F : ∀ (w : World) (mg : PySem.Str → Option Value) (fa : Addr) (h : Heap) (K : PySem.W.Frag), K.In h → h.Ns mainGlobals mg → mg ("law" : PySem.Str) = some (.ref fa) → SaysP exB fnAll K →
      ∃ (fd : FuncData) (sp : L2.Sp), (∀ (s : Shared) (u : Value), BindsTo s fd ⟨[u], []⟩ [("_law_cells", u)]) ∧
        (∀ (H : L2.Hp) (a : Addr) (ns : List Int), ns.length ≤ 63 → L2.Only H → L2.SqL K H a (ns.map L2.V.int) → sp [.ref a] H (fun v _ => v = .bl true) fun _ _ _ => False) ∧
        ∀ base : Heap, K.In base → base.Ns mainGlobals mg → L2.FnOk RW.prog w K mg base L2.CX0 8 fa fd ["_law_cells"] sp) :
    PySem.Challenge.rw_halverules_k02_constants_n_and_singles.Holds := by
  w_on; o_law
  refine HandSHeadRun.head_imp (r := OpenLaw.row PySem.Challenge.rw_halverules_k02_constants_n_and_singles) (q := vw) (H := hkL) (ob := obL) (M := 7000) (loose := names) (d := HandSHeadRun.topDef (OpenLaw.row PySem.Challenge.rw_halverules_k02_constants_n_and_singles).prog 127) (kwd := []) obL_eq
    run (by kernel_rfl) (by kernel_rfl) (by kernel_rfl) (by rfl) (by first | assumption | decide +kernel) (by decide +kernel) ⟨rfl, rfl, rfl, rfl, rfl, by decide +kernel⟩ ?hw ?hc
  case hw => w_witness2
  case hc =>
    refine L2.walk_ofE (l := PySem.Challenge.rw_halverules_k02_constants_n_and_singles) (n := 63) (k := 8) (x := "_law_cells") (CX := L2.CX0) rfl (by decide) (by kernel_rfl) ⟨rfl, by decide, by decide⟩ ?F (fun _ _ _ _ z => z)
    intro w mg fa h Y G hmg0
    obtain ⟨K, KX, c⟩ := Y
    have hmg : mg ("law" : PySem.Str) = some (.ref fa) := by
      have e : (HandSHeadRun.topDef (OpenLaw.row PySem.Challenge.rw_halverules_k02_constants_n_and_singles).prog 127).name = ("law" : PySem.Str) := by kernel_rfl
      rw [← e]
      exact hmg0
    obtain ⟨fd, sp, hb, hs, hF⟩ := F w mg fa h K KX G hmg c
    exact ⟨K, fd, sp, KX, hb, hs, hF⟩
end L2.EH
end S_M3h
section S_K1
set_option maxRecDepth 100000
set_option maxHeartbeats 4000000
namespace L2.EH
open PySem PySem.Spec PyProof.Rows
open L2.Halves (has keys Clean leastFrom leastIndex sparseFrom)
/-- a row as it stands in the heap -/
def rowK (r : Halves.Row) : List (Key × V) := r.map (fun p => (Sum.inl (p.1 : Int), V.int p.2))
theorem has_cons (k : Nat) (v : Int) (r : Halves.Row) (i : Nat) : has ((k, v) :: r) i = (k == i || has r i) := rfl
theorem get_cons (k : Nat) (v : Int) (r : Halves.Row) (i : Nat) : Halves.get ((k, v) :: r) i = if k = i then v else Halves.get r i := rfl
theorem rowK_cons (k : Nat) (v : Int) (r : Halves.Row) : rowK ((k, v) :: r) = (Sum.inl (k : Int), V.int v) :: rowK r := rfl
theorem valV_cons (k : Key) (v : V) (l : List (Key × V)) (x : Key) : valV ((k, v) :: l) x = if k = x then some v else valV l x := by
  unfold valV
  by_cases e : k = x
  · simp [e]
  · simp [e]
theorem valV_rowK : ∀ (r : Halves.Row) (i : Nat), valV (rowK r) (Sum.inl (i : Int)) = if has r i = true then some (.int (Halves.get r i)) else none
  | [], i => rfl
  | (k, v) :: r, i => by
    rw [rowK_cons, valV_cons, has_cons, get_cons, valV_rowK r i]
    by_cases e : k = i
    · subst e; simp
    · have e1 : ¬ (Sum.inl (k : Int) : Key) = Sum.inl (i : Int) := fun h => e (by injection h with h; omega)
      have e3 : (k == i) = false := by simpa using e
      rw [if_neg e1, if_neg e, e3, Bool.false_or]
theorem scLeastIx : FnScope ["row", "width", "at"] ["row", "width"] (defScope sLeastIx) := ⟨rfl, rfl, rfl, by decide +kernel, rfl, by decide +kernel, by decide +kernel⟩
structure Nm (mg : Str → Option Value) : Prop where
  range : mg "range" = none
def spLeastIx : Sp := fun vs H Q _ => ∃ (a : Addr) (r : Halves.Row) (w : Nat), vs = [.ref a, .int (w : Int)] ∧ H a = some (.dK (rowK r)) ∧ w < 1000000 ∧
  ∀ H', Same H H' → Q (match leastIndex r w with | none => .non | some p => .int (p : Int)) H'
section
variable {P : Program} {w : World} {K : PySem.W.Frag} {mg : Str → Option Value} {base : Heap}
theorem leastFrom_step (r : Halves.Row) (w i : Nat) (h : i < w) : leastFrom r i (w - i) = if has r i then some i else leastFrom r (i + 1) (w - (i + 1)) := by
  have : w - i = (w - (i + 1)) + 1 := by omega
  rw [this]; rfl
theorem ok_leastIx {f : Addr} {fd : FuncData} (F : Fun K "least_index" "least_index" sLeastIx f fd) (B : Nm mg) : FnOk P w K mg base CX0 1 f fd ["row", "width"] spLeastIx := by
  refine F.ok scLeastIx (fun vs H Q E h => ?_) (fun cdv A outer s H vs Q E hr h => ?_)
  · obtain ⟨a, r, w, rfl, _⟩ := h
    rfl
  · obtain ⟨a, r, w, rfl, ha, hw, k⟩ := h
    have hu := hu_of hr
    have nd := scLeastIx.nd
    refine ⟨_, pss_cons (ps_for PassesOwn.never rfl (pi_range1 (by rfl) B.range (pa_cons (pv 1) pa_nil)) (pg_name (i := 2) nd rfl (Or.inl rfl))
        (pss_one (ps_if (pt_cmp (pc_din hu (pv 2) (pv 0))) (pss_one (ps_ret (pv 2))) pss_nil)))
      (pss_one (ps_ret pe_non)), ?_⟩
    refine ⟨_, rfl, (w : Int), rfl, by omega, by omega, ?_⟩
    refine for_range (n := ((w : Int)).toNat) (fun i σ H' => Same H H' ∧ (∃ x, σ = [some (.ref a), some (.int (w : Int)), x]) ∧ leastFrom r 0 w = leastFrom r i (w - i)) ⟨fun _ _ h => h, ⟨_, rfl⟩, by simp⟩ ?_ ?_
    · rintro i σ H' hi ⟨hs, ⟨x, rfl⟩, hl⟩
      have hiw : i < w := by omega
      rw [Int.zero_add]
      rw [leastFrom_step r w i hiw] at hl
      refine ⟨_, rfl, _, rfl, a, _, rfl, DGet.k (k := Sum.inl (i : Int)) (hs _ _ ha), ?_⟩
      rw [valV_rowK]
      by_cases hh : has r i = true
      · rw [if_pos hh]
        refine ⟨_, rfl, iteT ⟨_, rfl, ?_⟩⟩
        rw [if_pos hh] at hl
        have := k H' hs
        unfold leastIndex at this
        rw [hl] at this
        exact this
      · rw [if_neg hh]
        rw [if_neg hh] at hl
        exact ⟨_, rfl, iteF ⟨hs, ⟨_, rfl⟩, hl⟩⟩
    · rintro σ H' ⟨hs, ⟨x, rfl⟩, hl⟩
      have := k H' hs
      unfold leastIndex at this
      rw [hl] at this
      have e : w - ((w : Int)).toNat = 0 := by omega
      rw [e] at this
      exact this
end
end L2.EH
end S_K1
section S_K2
set_option maxRecDepth 100000
set_option maxHeartbeats 4000000
namespace L2.EH
open PySem PySem.Spec PyProof.Rows
open L2.Halves (has keys Clean leastFrom leastIndex sparseFrom put)
theorem sparseFrom_snoc : ∀ (xs : List Int) (i : Nat) (v : Int), sparseFrom i (xs ++ [v]) = sparseFrom i xs ++ (if v ≠ 0 then [(i + xs.length, v)] else [])
  | [], i, v => by simp [sparseFrom]
  | x :: xs, i, v => by
    have ih := sparseFrom_snoc xs (i + 1) v
    simp only [List.cons_append, sparseFrom, ih, List.length_cons]
    have e : i + 1 + xs.length = i + (xs.length + 1) := by omega
    rw [e]
    by_cases hx : x ≠ 0 <;> simp [hx]
theorem rowK_append (a b : Halves.Row) : rowK (a ++ b) = rowK a ++ rowK b := by simp [rowK]
theorem rowK_length (r : Halves.Row) : (rowK r).length = r.length := by simp [rowK]
theorem valV_none_of {r : Halves.Row} {i : Nat} (h : i ∉ keys r) : valV (rowK r) (Sum.inl (i : Int)) = none := by
  rw [valV_rowK, if_neg (fun hh => h ((Halves.has_iff r i).1 hh))]
theorem putK_new {r : Halves.Row} {i : Nat} (h : i ∉ keys r) (v : Int) : putK (rowK r) (Sum.inl (i : Int)) (V.int v) = rowK (r ++ [(i, v)]) := by
  unfold putK
  rw [valV_any, valV_none_of h]
  rw [if_neg (by simp), rowK_append]; rfl
theorem sparseFrom_length : ∀ (xs : List Int) (i : Nat), (sparseFrom i xs).length ≤ xs.length
  | [], i => by simp [sparseFrom]
  | x :: xs, i => by
    have := sparseFrom_length xs (i + 1)
    simp only [sparseFrom]
    split <;> simp <;> omega
theorem scSparse : FnScope ["values", "at", "worth"] ["values"] (defScope sSparse) := ⟨rfl, rfl, rfl, by decide +kernel, rfl, by decide +kernel, by decide +kernel⟩
def spSparse (K : PySem.W.Frag) : Sp := fun vs H Q _ => ∃ (a : Addr) (ns : List Int), vs = [.ref a] ∧ SqL K H a (ns.map V.int) ∧ ns.length ≤ 1000 ∧
  ∀ H' p, Same H H' → H p = none → H' p = some (.dK (rowK (Halves.sparse ns))) → Q (.ref p) H'
structure Nm2 (mg : Str → Option Value) : Prop where
  enum : mg "enumerate" = none
section
variable {P : Program} {w : World} {K : PySem.W.Frag} {mg : Str → Option Value} {base : Heap}
theorem ok_sparse {f : Addr} {fd : FuncData} (F : Fun K "sparse" "sparse" sSparse f fd) (B : Nm2 mg) : FnOk P w K mg base CX0 1 f fd ["values"] (spSparse K) := by
  refine F.ok scSparse (fun vs H Q E h => ?_) (fun cdv A outer s H vs Q E hr h => ?_)
  · obtain ⟨a, ns, rfl, _⟩ := h
    rfl
  · obtain ⟨a, ns, rfl, ha, hl, k⟩ := h
    have hu := hu_of hr
    have nd := scSparse.nd
    refine ⟨_, pss_one (ps_ret (pe_dc (own := [("at", 1), ("worth", 2)]) (g := gTup K 2 (gCons (gName 1) (gCons (gName 2) gNil))) rfl nd (pi_enum (by rfl) B.enum (pa_cons (pv 0) pa_nil)) (blkOk_by (N := ["values", "at", "worth"]) (sc := defScope sSparse) (by decide +kernel))
      (fun _ _ _ _ _ => pg_tup rfl (pgs_cons (pg_name (i := 1) nd rfl (Or.inl rfl) (Or.inr rfl)) (pgs_cons (pg_name (i := 2) nd rfl (Or.inl rfl) (Or.inr rfl)) pgs_nil rfl) rfl) rfl rfl)
      (fun _ _ _ _ _ => pts_one (pt_cmpR op_ne (pv 2) pe_int (nomark _))) (fun _ _ _ _ _ => pv 1) (fun _ _ _ _ _ => pv 2))), ?_⟩
    refine ⟨_, rfl, a, _, rfl, ha, fun D nD => ⟨fun i m Hc => i ≤ ns.length ∧ m = ns.length - i ∧ Same H Hc ∧ Hc D = some (.dK (rowK (sparseFrom 0 (ns.take i)))), ⟨ns.length, Nat.zero_le _, rfl, ?_, ?_⟩, ?_⟩⟩
    · intro b o hb
      rw [upd_ne (by intro e; rw [e, nD] at hb; cases hb)]; exact hb
    · simp [upd_same, sparseFrom, rowK]
    · rintro i m Hc ⟨hi, rfl, hs, hD⟩
      by_cases hlt : i < ns.length
      · refine .inr ⟨⟨_, _, hs.seq ha, by rw [List.getElem?_map, List.getElem?_eq_getElem hlt]; rfl⟩, fun H' => Same H H' ∧ H' D = some (.dK (rowK (sparseFrom 0 (ns.take (i + 1))))), fun H' h => ⟨ns.length - (i + 1), by omega, by omega, rfl, h.1, h.2⟩, fun x H' y => ?_⟩
        obtain ⟨T, x', rfl, hT, rfl, hx⟩ := y
        have hx' := hx _ (hs.seq ha)
        rw [List.getElem?_map, List.getElem?_eq_getElem hlt] at hx'
        injection hx' with hx'
        subst hx'
        have hDT : D ≠ T := by intro e; rw [e, hT] at hD; cases hD
        have hs2 : Same H (upd Hc T (.tup [.int (i : Nat), V.int ns[i]])) := fun b o hb => by
          rw [upd_ne (by intro e; rw [e] at hb; rw [hs _ _ hb] at hT; cases hT)]; exact hs _ _ hb
        have hD2 : (upd Hc T (.tup [.int (i : Nat), V.int ns[i]])) D = some (.dK (rowK (sparseFrom 0 (ns.take i)))) := by
          rw [upd_ne hDT]; exact hD
        have et : ns.take (i + 1) = ns.take i ++ [ns[i]] := (List.take_succ_eq_append_getElem hlt)
        have el : (ns.take i).length = i := by simp; omega
        refine ⟨T, _, rfl, SqT.of upd_same, rfl, _, _, rfl, _, _, rfl, rfl, rfl, ?_⟩
        refine ⟨_, rfl, rfl, _, rfl, ?_⟩
        have elen : (rowK (sparseFrom 0 (ns.take i))).length < sizeLine := by
          rw [rowK_length]
          have := sparseFrom_length (ns.take i) 0
          exact small1000 (by omega)
        have enew : i ∉ keys (sparseFrom 0 (ns.take i)) := fun h => by
          have := Halves.sparseFrom_keys (ns.take i) 0 i h
          omega
        rw [et, sparseFrom_snoc, el, Nat.zero_add]
        by_cases hv : ns[i] = 0
        · have ed : (!decide (V.int ns[i] = V.int 0)) = false := by simp [hv]
          rw [ed, if_neg (by simpa using hv), List.append_nil]
          exact iteF ⟨hs2, hD2⟩
        · have ed : (!decide (V.int ns[i] = V.int 0)) = true := by simpa using hv
          rw [ed, if_pos hv]
          refine iteT ⟨_, rfl, _, rfl, _, Sum.inl (i : Int), rfl, hD2, elen, ?_⟩
          rw [putK_new enew]
          refine ⟨fun b o hb => ?_, upd_same⟩
          rw [upd_ne (by intro e; rw [e, nD] at hb; cases hb)]
          exact hs2 b o hb
      · have e : i = ns.length := by omega
        refine .inl ⟨⟨_, hs.seq ha, by simp; omega⟩, ?_⟩
        rw [e, List.take_length] at hD
        exact k Hc D hs nD hD
end
end L2.EH
end S_K2
section S_K3
set_option maxRecDepth 100000
set_option maxHeartbeats 4000000
namespace L2.EH
open PySem PySem.Spec PyProof.Rows
open L2.Halves (has keys Clean leastFrom leastIndex sparseFrom put)
theorem for_keys {d : Addr} {o : Obj} {kvs : List (Key × V)} {g : TG} {tb : TS} {D : Ends} {σ : St} {H : Hp} (Pv : Nat → St → Hp → Prop) (h0 : Pv 0 σ H)
    (hl : ∀ i σ H, i ≤ kvs.length → Pv i σ H → H d = some (.frz o (.dK kvs)))
    (hs : ∀ i k v σ H, kvs[i]? = some (k, v) → Pv i σ H → g (kV k) σ H fun σ2 H2 => tb { D with nx := Pv (i + 1), ct := Pv (i + 1), bk := D.nx } σ2 H2)
    (hd : ∀ σ H, Pv kvs.length σ H → D.nx σ H) :
    ∃ W : Nat → Nat → St → Hp → Prop, (∃ m, W 0 m σ H) ∧ ∀ i m σ H, W i m σ H →
      ((Itk d o kvs).stop i H ∧ D.nx σ H) ∨ ((Itk d o kvs).go i H ∧ ∃ N : St → Hp → Prop, (∀ σ' H', N σ' H' → ∃ m', m' < m ∧ W (i + 1) m' σ' H') ∧ ∀ x H', (Itk d o kvs).yld i H x H' → g x σ H' fun σ2 H2 => tb { D with nx := N, ct := N, bk := D.nx } σ2 H2) := by
  refine ⟨fun i m σ H => m = kvs.length - i ∧ i ≤ kvs.length ∧ Pv i σ H, ⟨kvs.length, rfl, Nat.zero_le _, h0⟩, ?_⟩
  rintro i m σ H ⟨rfl, hi, p⟩
  have q := hl i σ H hi p
  by_cases hlt : i < kvs.length
  · refine .inr ⟨⟨q, hlt⟩, Pv (i + 1), fun σ' H' p' => ⟨kvs.length - (i + 1), by omega, rfl, hlt, p'⟩, fun x H' y => ?_⟩
    obtain ⟨rfl, k, v, e, rfl⟩ := y
    exact hs i k v σ _ e p
  · have e : i = kvs.length := by omega
    subst e
    exact .inl ⟨⟨q, Nat.le_refl _⟩, hd σ H p⟩
theorem rowK_get (r : Halves.Row) (i : Nat) (k : Key) (v : V) (h : (rowK r)[i]? = some (k, v)) : ∃ p, r[i]? = some p ∧ k = Sum.inl (p.1 : Int) ∧ v = V.int p.2 := by
  simp only [rowK, List.getElem?_map] at h
  cases hr : r[i]? with
  | none => rw [hr] at h; simp at h
  | some p => rw [hr] at h; simp at h; exact ⟨p, rfl, h.1.symm, h.2.symm⟩
/-- the divisor that is worked out, turn by turn -/
theorem common_step (r : Halves.Row) (i : Nat) (p : Nat × Int) (h : r[i]? = some p) (c : Nat) :
    Halves.common (r.drop i) c = if Int.gcd c p.2 = 1 then 1 else Halves.common (r.drop (i + 1)) (Int.gcd c p.2) := by
  obtain ⟨hi, e⟩ := List.getElem?_eq_some_iff.1 h
  rw [List.drop_eq_getElem_cons hi, e]; rfl
def trimBy (c : Nat) (r : Halves.Row) : Halves.Row := (r.filter (fun p => p.2 != 0)).map (fun p => (p.1, p.2 / (c : Int)))
theorem trimBy_snoc (c : Nat) (r : Halves.Row) (i : Nat) (p : Nat × Int) (h : r[i]? = some p) :
    trimBy c (r.take (i + 1)) = trimBy c (r.take i) ++ (if p.2 ≠ 0 then [(p.1, p.2 / (c : Int))] else []) := by
  obtain ⟨hi, e⟩ := List.getElem?_eq_some_iff.1 h
  rw [List.take_succ_eq_append_getElem hi, e]
  unfold trimBy
  rw [List.filter_append, List.map_append]
  by_cases hp : p.2 = 0 <;> simp [hp]
theorem trimBy_length (c : Nat) (r : Halves.Row) : (trimBy c r).length ≤ r.length := by
  unfold trimBy
  rw [List.length_map]
  exact List.length_filter_le ..
theorem trimBy_new (c : Nat) (r : Halves.Row) (i : Nat) (p : Nat × Int) (h : r[i]? = some p) (hn : (keys r).Nodup) : p.1 ∉ keys (trimBy c (r.take i)) := by
  intro hm
  obtain ⟨hi, e⟩ := List.getElem?_eq_some_iff.1 h
  obtain ⟨q, hq, eq⟩ := List.mem_map.1 hm
  obtain ⟨q', hq', rfl⟩ := List.mem_map.1 hq
  have hq2 : q' ∈ r.take i := (List.mem_filter.1 hq').1
  obtain ⟨j, hj, ej⟩ := List.getElem_of_mem hq2
  have hji : j < i := by simp at hj; omega
  have hjr : j < r.length := by omega
  have e1 : r[j] = q' := by rw [← ej]; simp
  have hk : (keys r)[j]'(by simpa [keys] using hjr) = (keys r)[i]'(by simpa [keys] using hi) := by
    simp only [keys, List.getElem_map, e1, e]; exact eq
  have := (List.getElem_inj hn).1 hk
  omega
theorem scTrimmed : FnScope ["row", "common", "at"] ["row"] (defScope sTrimmed) := ⟨rfl, rfl, rfl, by decide +kernel, rfl, by decide +kernel, by decide +kernel⟩
def spTrimmed : Sp := fun vs H Q _ => ∃ (a : Addr) (r : Halves.Row), vs = [.ref a] ∧ H a = some (.dK (rowK r)) ∧ (keys r).Nodup ∧ r.length ≤ 1000 ∧ (∀ p, p ∈ r → p.2.natAbs < 2 ^ 9000) ∧
  ∀ H' p, Same H H' → H p = none → H' p = some (.dK (rowK (Halves.trimmed r))) → Q (.ref p) H'
structure Nm3 (mg : Str → Option Value) : Prop where
  gcd : mg "gcd" = some (.builtin "math.gcd")
section
variable {P : Program} {w : World} {K : PySem.W.Frag} {mg : Str → Option Value} {base : Heap}
theorem ok_trimmed {f : Addr} {fd : FuncData} (F : Fun K "trimmed" "trimmed" sTrimmed f fd) (B : Nm3 mg) : FnOk P w K mg base CX0 1 f fd ["row"] spTrimmed := by
  refine F.ok scTrimmed (fun vs H Q E h => ?_) (fun cdv A outer s H vs Q E hr h => ?_)
  · obtain ⟨a, r, rfl, _⟩ := h
    rfl
  · obtain ⟨a, r, rfl, ha, hn, hl, hz, k⟩ := h
    have hu := hu_of hr
    have nd := scTrimmed.nd
    refine ⟨_, pss_cons (ps_set (i := 1) nd rfl (Or.inr rfl) pe_int)
      (pss_cons (ps_lock (ps_for PassesOwn.never rfl (pi_keys (pv 0)) (pg_name (i := 2) nd rfl (Or.inl rfl))
        (pss_cons (ps_set (i := 1) nd rfl (Or.inr rfl) (pe_callBfun cr_gcd (by rfl) B.gcd (pa_cons (pv 1) (pa_cons (pe_dget hu (pv 0) (pv 2) (fun _ _ => rfl)) pa_nil))))
          (pss_one (ps_if (pt_cmpR op_eq (pv 1) pe_int (nomark _)) (pss_one ps_break) pss_nil)))))
      (pss_one (ps_ret (pe_lock (pe_dc (own := [("at", 2)]) (g := gName 2) rfl nd (pi_keys (pv 0)) (blkOk_by (N := ["row", "common", "at"]) (sc := defScope sTrimmed) (by decide +kernel))
        (fun _ _ _ _ _ => pg_name (i := 2) nd rfl (Or.inl rfl) (Or.inr rfl))
        (fun _ _ _ _ _ => pts_one (pt_cmpR op_ne (pe_dget (by exact hu) (pv 0) (pv 2) (fun _ _ => rfl)) pe_int (nomark _))) (fun _ _ _ _ _ => pv 2) (fun _ _ _ _ _ => pe_op op_fdivW (pe_dget (by exact hu) (pv 0) (pv 2) (fun _ _ => rfl)) (pv 1))))))), ?_⟩
    have back : ∀ (o : HO), upd (upd H a o) a (.dK (rowK r)) = H := fun o => by
      funext b
      by_cases e : b = a
      · subst e; rw [upd_same, ha]
      · rw [upd_ne e, upd_ne e]
    have rest : ∀ x, (tRet
        (tLockE
          (tDc (iKeys (tVar 0)) (gName 2) (tTest (tOp rNe (tDGet (tVar 0) (tVar 2)) (tC (V.int 0)))) (tVar 2)
            (tOp (rI CDivW fun i j => V.int (i / j)) (tDGet (tVar 0) (tVar 2)) (tVar 1))
            (List.map (fun x => x.snd) [(Str.ofString "at", 2)]))))
        { nx := fun x H' => Q V.non H', rt := Q } [some (.ref a), some (.int ((Halves.common r 0 : Nat) : Int)), x] H := fun x => by
      refine ⟨a, _, ha, trivial, fun od => ⟨_, rfl, a, od, rfl, .inl ⟨_, upd_same, fun D nD => ?_⟩⟩⟩
      have hDa : D ≠ a := by intro e; rw [e, upd_same] at nD; cases nD
      have nD' : H D = none := by rw [upd_ne hDa] at nD; exact nD
      refine ⟨fun i m Hc => i ≤ r.length ∧ m = r.length - i ∧ Hc a = some (.frz od (.dK (rowK r))) ∧ (∀ b o, b ≠ a → H b = some o → Hc b = some o) ∧ Hc D = some (.dK (rowK (trimBy (Halves.common r 0) (r.take i)))), ⟨r.length, Nat.zero_le _, rfl, ?_, ?_, ?_⟩, ?_⟩
      · rw [upd_ne (Ne.symm hDa), upd_same]
      · intro b o hb ho
        rw [upd_ne (by intro e; rw [e, nD'] at ho; cases ho), upd_ne hb]; exact ho
      · rw [upd_same]; rfl
      · rintro i m Hc ⟨hi, rfl, hA, hs, hD⟩
        by_cases hlt : i < r.length
        · refine .inr ⟨⟨hA, by rw [rowK_length]; exact hlt⟩, fun H' => H' a = some (.frz od (.dK (rowK r))) ∧ (∀ b o, b ≠ a → H b = some o → H' b = some o) ∧ H' D = some (.dK (rowK (trimBy (Halves.common r 0) (r.take (i + 1))))), fun H' h => ⟨r.length - (i + 1), by omega, by omega, rfl, h⟩, fun x' H' y => ?_⟩
          obtain ⟨rfl, kk, v, hkv, rfl⟩ := y
          obtain ⟨p, hp, rfl, rfl⟩ := rowK_get r i kk v hkv
          have hpm : p ∈ r := List.mem_of_getElem? hp
          have hv : valV (rowK r) (Sum.inl (p.1 : Int)) = some (V.int p.2) := by
            rw [valV_rowK, if_pos ((Halves.has_iff r p.1).2 (List.mem_map.2 ⟨p, hpm, rfl⟩)), Halves.get_of_mem r p hn hpm]
          have dg : DGet H' a (kV (Sum.inl (p.1 : Int))) (some (V.int p.2)) := .inl ⟨_, Sum.inl (p.1 : Int), .inr ⟨od, hA⟩, rfl, hv.symm⟩
          refine ⟨rfl, ?_⟩
          refine ⟨_, rfl, _, rfl, a, _, rfl, dg, rfl, _, rfl, ?_⟩
          rw [trimBy_snoc _ r i p hp]
          by_cases h0 : p.2 = 0
          · have ed : (!decide (V.int p.2 = V.int 0)) = false := by simp [h0]
            rw [ed, if_neg (by simpa using h0), List.append_nil]
            exact iteF ⟨hA, hs, hD⟩
          · have ed : (!decide (V.int p.2 = V.int 0)) = true := by simpa using h0
            rw [ed, if_pos h0]
            have hcp : 0 < Halves.common r 0 := Halves.common_pos r 0 (.inr ⟨p, hpm, h0⟩)
            have hcd := (Halves.common_dvd r 0).2 p hpm
            have hcl : ((Halves.common r 0 : Nat) : Int).natAbs < 2 ^ 9000 := by
              refine Nat.lt_of_le_of_lt (Nat.le_of_dvd (by omega) (Int.natAbs_dvd_natAbs.2 hcd)) (hz p hpm)
            refine iteT ⟨_, rfl, _, rfl, _, rfl, a, _, rfl, dg, _, rfl, _, _, rfl, rfl, wide_div (by omega) hcl (by decide) (by decide), _, Sum.inl (p.1 : Int), rfl, hD, ?_, ?_⟩
            · rw [rowK_length]
              have := trimBy_length (Halves.common r 0) (r.take i)
              exact small1000 (by simp at this; omega)
            · rw [putK_new (trimBy_new _ r i p hp hn)]
              refine ⟨by rw [upd_ne (Ne.symm hDa)]; exact hA, fun b o hb ho => ?_, upd_same⟩
              rw [upd_ne (by intro e; rw [e, nD'] at ho; cases ho)]
              exact hs b o hb ho
        · have e : i = r.length := by omega
          refine .inl ⟨⟨hA, by rw [rowK_length]; omega⟩, hA, ?_⟩
          rw [e, List.take_length] at hD
          refine k _ D (fun b o hb => ?_) nD' (by rw [upd_ne hDa]; exact hD)
          by_cases eb : b = a
          · subst eb; rw [upd_same, ← ha]; exact hb
          · rw [upd_ne eb]; exact hs b o eb hb
    refine ⟨a, _, ha, trivial, fun od => ⟨_, rfl, a, od, rfl, .inl ⟨_, upd_same, ?_⟩⟩⟩
    refine for_keys (fun i σ Hc => Hc = upd H a (.frz od (.dK (rowK r))) ∧ ∃ (c : Nat) (x : Option V), σ = [some (.ref a), some (.int (c : Int)), x] ∧ Halves.common r 0 = Halves.common (r.drop i) c) ⟨rfl, 0, _, rfl, rfl⟩ ?_ ?_ ?_
    · rintro i σ Hc _ ⟨rfl, _⟩
      exact upd_same
    · rintro i kk v σ Hc hi ⟨rfl, c, x, rfl, hc⟩
      obtain ⟨p, hp, rfl, rfl⟩ := rowK_get r i kk v hi
      rw [common_step r i p hp c] at hc
      have hpm : p ∈ r := List.mem_of_getElem? hp
      have hv : valV (rowK r) (Sum.inl (p.1 : Int)) = some (V.int p.2) := by
        rw [valV_rowK, if_pos ((Halves.has_iff r p.1).2 (List.mem_map.2 ⟨p, hpm, rfl⟩)), Halves.get_of_mem r p hn hpm]
      refine ⟨_, rfl, _, rfl, _, rfl, a, _, rfl, .inl ⟨_, Sum.inl (p.1 : Int), .inr ⟨od, upd_same⟩, rfl, hv.symm⟩, _, _, rfl, ?_⟩
      refine ⟨_, rfl, rfl, _, rfl, ?_⟩
      have eg : Nat.gcd (c : Int).natAbs p.2.natAbs = Int.gcd c p.2 := rfl
      by_cases h1 : Int.gcd c p.2 = 1
      · have ed : decide (V.int ((Nat.gcd (c : Int).natAbs p.2.natAbs : Nat) : Int) = V.int 1) = true := by rw [eg, h1]; rfl
        rw [ed]
        rw [if_pos h1] at hc
        refine iteT ⟨upd_same, ?_⟩
        rw [back]
        have := rest (some (kV (Sum.inl (p.1 : Int))))
        rw [hc] at this
        rw [eg, h1]
        exact this
      · have ed : decide (V.int ((Nat.gcd (c : Int).natAbs p.2.natAbs : Nat) : Int) = V.int 1) = false := by
          rw [eg]
          have : ((Int.gcd c p.2 : Nat) : Int) ≠ 1 := by omega
          simpa using this
        rw [ed]
        rw [if_neg h1] at hc
        exact iteF ⟨rfl, _, _, rfl, hc⟩
    · rintro σ Hc ⟨rfl, c, x, rfl, hc⟩
      have e0 : (r.drop (rowK r).length) = [] := by rw [rowK_length]; simp
      rw [e0] at hc
      refine ⟨upd_same, ?_⟩
      rw [back]
      have : c = Halves.common r 0 := hc.symm
      rw [this]
      exact rest x
end
end L2.EH
end S_K3
section S_K4
set_option maxRecDepth 100000
set_option maxHeartbeats 4000000
namespace L2.EH
open PySem PySem.Spec PyProof.Rows
open L2.Halves (has keys Clean leastFrom leastIndex sparseFrom put timesRow lessRow)
theorem mapK_other (v : Int) (k : Nat) : ∀ l : Halves.Row, k ∉ keys l → (rowK l).map (fun kv => if kv.1 = Sum.inl (k : Int) then (kv.1, V.int v) else kv) = rowK l
  | [], _ => rfl
  | (k', x') :: l, h => by
    have h' : ¬ k = k' ∧ k ∉ keys l := by simpa [keys] using h
    rw [rowK_cons]
    simp only [List.map_cons]
    rw [mapK_other v k l h'.2, if_neg (fun e => h'.1 (by injection e with e; omega))]
theorem mapK_put (v : Int) (i : Nat) : ∀ r : Halves.Row, (keys r).Nodup → i ∈ keys r → (rowK r).map (fun kv => if kv.1 = Sum.inl (i : Int) then (kv.1, V.int v) else kv) = rowK (put r i v)
  | [], _, h => by simp [keys] at h
  | (k, x) :: r, hn, hi => by
    have hn' : k ∉ keys r ∧ (keys r).Nodup := by simpa [keys] using hn
    rw [rowK_cons]
    simp only [List.map_cons, put]
    by_cases e : k = i
    · subst e
      rw [if_pos rfl, if_pos rfl, rowK_cons, mapK_other v k r hn'.1]
    · have e1 : ¬ (Sum.inl (k : Int) : Key) = Sum.inl (i : Int) := fun h => e (by injection h with h; omega)
      have hi' : i ∈ keys r := by
        simp only [keys, List.map_cons, List.mem_cons] at hi
        rcases hi with h | h
        · exact absurd h.symm e
        · exact h
      rw [if_neg e1, if_neg e, rowK_cons, mapK_put v i r hn'.2 hi']
theorem putK_old {r : Halves.Row} {i : Nat} (v : Int) (hn : (keys r).Nodup) (hi : i ∈ keys r) : putK (rowK r) (Sum.inl (i : Int)) (V.int v) = rowK (put r i v) := by
  unfold putK
  rw [valV_any, valV_rowK, if_pos ((Halves.has_iff r i).2 hi), if_pos (show (some (V.int (Halves.get r i))).isSome = true from rfl), mapK_put v i r hn hi]
theorem putK_row {r : Halves.Row} {i : Nat} (v : Int) (hn : (keys r).Nodup) : putK (rowK r) (Sum.inl (i : Int)) (V.int v) = rowK (put r i v) := by
  by_cases hi : i ∈ keys r
  · exact putK_old v hn hi
  · rw [putK_new hi]
    congr 1
    clear hn
    induction r with
    | nil => rfl
    | cons q r ih =>
      obtain ⟨k, x⟩ := q
      have h' : ¬ i = k ∧ i ∉ keys r := by simpa [keys] using hi
      simp only [List.cons_append, put]
      rw [if_neg (fun e => h'.1 e.symm), ih h'.2]
theorem put_length : ∀ (r : Halves.Row) (i : Nat) (v : Int), (put r i v).length ≤ r.length + 1
  | [], _, _ => by simp [put]
  | (k, x) :: r, i, v => by
    have := put_length r i v
    simp only [put]
    split <;> simp <;> omega
theorem lessRow_snoc (m : Int) : ∀ (l mixed : Halves.Row) (p : Nat × Int), lessRow m mixed (l ++ [p]) = put (lessRow m mixed l) p.1 (Halves.get (lessRow m mixed l) p.1 - m * p.2)
  | [], _, _ => rfl
  | (k, v) :: l, mixed, p => by
    simp only [List.cons_append, lessRow]
    exact lessRow_snoc m l _ p
theorem timesRow_snoc (t : Int) (l : Halves.Row) (p : Nat × Int) : timesRow t (l ++ [p]) = timesRow t l ++ [(p.1, t * p.2)] := by simp [timesRow]
theorem lessRow_length (m : Int) : ∀ (l mixed : Halves.Row), (lessRow m mixed l).length ≤ mixed.length + l.length
  | [], _ => Nat.le_refl _
  | (k, v) :: l, mixed => by
    have h1 := lessRow_length m l (put mixed k (Halves.get mixed k - m * v))
    have h2 := put_length mixed k (Halves.get mixed k - m * v)
    simp only [lessRow, List.length_cons]; omega
theorem get_lt {r : Halves.Row} {n : Nat} (h : ∀ p, p ∈ r → p.2.natAbs < 2 ^ n) (hn : (keys r).Nodup) (i : Nat) : (Halves.get r i).natAbs < 2 ^ n := by
  by_cases hi : i ∈ keys r
  · obtain ⟨p, hp, rfl⟩ := List.mem_map.1 hi
    rw [Halves.get_of_mem r p hn hp]; exact h p hp
  · rw [Halves.get_of_not_mem r i hi]; exact Nat.pow_pos (by decide)
theorem getD_row (r : Halves.Row) (i : Nat) : (valV (rowK r) (Sum.inl (i : Int))).getD (V.int 0) = V.int (Halves.get r i) := by
  rw [valV_rowK]
  by_cases h : has r i = true
  · rw [if_pos h]; rfl
  · rw [if_neg h, Halves.get_of_not_mem r i (fun hm => h ((Halves.has_iff r i).2 hm))]; rfl
theorem take_snoc (r : Halves.Row) (i : Nat) (q : Nat × Int) (h : r[i]? = some q) : r.take (i + 1) = r.take i ++ [q] := by
  obtain ⟨hi, e⟩ := List.getElem?_eq_some_iff.1 h
  rw [List.take_succ_eq_append_getElem hi, e]
theorem take_new (r : Halves.Row) (i : Nat) (q : Nat × Int) (h : r[i]? = some q) (hn : (keys r).Nodup) : q.1 ∉ keys (r.take i) := by
  intro hm
  obtain ⟨hi, e⟩ := List.getElem?_eq_some_iff.1 h
  obtain ⟨q', hq2, eq⟩ := List.mem_map.1 hm
  obtain ⟨j, hj, ej⟩ := List.getElem_of_mem hq2
  have hji : j < i := by simp at hj; omega
  have hjr : j < r.length := by omega
  have e1 : r[j] = q' := by rw [← ej]; simp
  have hk : (keys r)[j]'(by simpa [keys] using hjr) = (keys r)[i]'(by simpa [keys] using hi) := by
    simp only [keys, List.getElem_map, e1, e]; exact eq
  have := (List.getElem_inj hn).1 hk
  omega
theorem sgn_cases {G : Int → Int → Prop} (R : Int → Int → Prop) {t m : Int} {A : Prop} (hA : G (-t) (-m) → A) (h1 : t < 0 → R (-t) (-m)) (h2 : ¬ t < 0 → R t m) (h : ∀ t m, R t m → G t m) : if decide (t < 0) = true then A else G t m := by
  by_cases h0 : t < 0
  · rw [if_pos (decide_eq_true h0)]; exact hA (h _ _ (h1 h0))
  · rw [if_neg (by simpa using h0)]; exact h _ _ (h2 h0)
theorem scCleared : FnScope ["row", "other", "pivot", "common", "times", "minus", "mixed", "at"] ["row", "other", "pivot"] (defScope sCleared) := ⟨rfl, rfl, rfl, by decide +kernel, rfl, by decide +kernel, by decide +kernel⟩
def spCleared : Sp := fun vs H Q _ => ∃ (a b : Addr) (r o : Halves.Row) (p n : Nat), vs = [.ref a, .ref b, .int (p : Int)] ∧ H a = some (.dK (rowK r)) ∧ H b = some (.dK (rowK o)) ∧ Clean r ∧ Clean o ∧ r.length + o.length ≤ 900 ∧
  Halves.get r p ≠ 0 ∧ Halves.get o p ≠ 0 ∧ (∀ q, q ∈ r → q.2.natAbs < 2 ^ n) ∧ (∀ q, q ∈ o → q.2.natAbs < 2 ^ n) ∧ n ≤ 4400 ∧
  ∀ H' q, Same H H' → H q = none → H' q = some (.dK (rowK (Halves.cleared r o p))) → Q (.ref q) H'
section
variable {P : Program} {w : World} {K : PySem.W.Frag} {mg : Str → Option Value} {base : Heap}
theorem ok_cleared {f fT : Addr} {fd fdT : FuncData} (F : Fun K "cleared" "cleared" sCleared f fd) (B : Nm3 mg) (BD : mg "dict" = none) (FT : FnOk P w K mg base CX0 1 fT fdT ["row"] spTrimmed) (bT : Binds K fdT ["row"] []) (mT : mg "trimmed" = some (.ref fT)) (kT : PySem.W.keepIn K (.ref fT) = true) :
    FnOk P w K mg base CX0 2 f fd ["row", "other", "pivot"] spCleared := by
  refine F.ok scCleared (fun vs H Q E h => ?_) (fun cdv A outer s H vs Q E hr h => ?_)
  · obtain ⟨a, b, r, o, p, n, rfl, _⟩ := h
    rfl
  · obtain ⟨a, b, r, o, p, n, rfl, ha, hb, cr, co, hl, hrp, hop, zr, zo, hn, k⟩ := h
    have hu := hu_of hr
    have nd := scCleared.nd
    refine ⟨_, pss_cons (ps_set (i := 3) nd rfl (Or.inl rfl) (pe_callBfun cr_gcd (by rfl) B.gcd (pa_cons (pe_dget hu (pv 0) (pv 2) (fun _ _ => rfl)) (pa_cons (pe_dget hu (pv 1) (pv 2) (fun _ _ => rfl)) pa_nil))))
      (pss_cons (ps_set (i := 4) nd rfl (Or.inl rfl) (pe_op op_fdivW (pe_dget hu (pv 1) (pv 2) (fun _ _ => rfl)) (pv 3)))
      (pss_cons (ps_set (i := 5) nd rfl (Or.inl rfl) (pe_op op_fdivW (pe_dget hu (pv 0) (pv 2) (fun _ _ => rfl)) (pv 3)))
      (pss_cons (ps_if (pt_cmpR op_lt (pv 4) pe_int (nomark _)) (pss_cons (ps_set (i := 4) nd rfl (Or.inl rfl) (pe_un un_neg (pv 4))) (pss_one (ps_set (i := 5) nd rfl (Or.inl rfl) (pe_un un_neg (pv 5))))) pss_nil)
      (pss_cons (ps_set (i := 6) nd rfl (Or.inl rfl) (pe_callTy call_dictD (by rfl) BD (by decide +kernel) (pa_cons (pv 0) pa_nil)))
      (pss_cons (ps_if (pt_cmpR op_ne (pv 4) pe_int (nomark _)) (pss_one (ps_lock (ps_for PassesOwn.never rfl (pi_keys (pv 0)) (pg_name (i := 7) nd rfl (Or.inl rfl))
        (pss_one (ps_dput hu (pv 6) (pv 7) (pe_op op_mulW (pv 4) (pe_dget hu (pv 0) (pv 7) (fun _ _ => rfl))) rfl))))) pss_nil)
      (pss_cons (ps_lock (ps_for PassesOwn.never rfl (pi_keys (pv 1)) (pg_name (i := 7) nd rfl (Or.inl rfl))
        (pss_one (ps_dput hu (pv 6) (pv 7) (pe_op op_sub (pe_dget2 hu (pv 6) (pv 7) pe_int ⟨rfl, rfl, rfl, rfl⟩) (pe_op op_mulW (pv 5) (pe_dget hu (pv 1) (pv 7) (fun _ _ => rfl)))) rfl))))
      (pss_one (ps_ret (pe_call FT hr rfl mT kT bT .nil pass0 (pa_cons (pv 6) pa_nil)))))))))), ?_⟩
    have hgr : p ∈ keys r := Halves.mem_keys_of_get hrp
    have hgo : p ∈ keys o := Halves.mem_keys_of_get hop
    have dget : ∀ (Hc : Hp) (x : Addr) (l : Halves.Row) (i : Nat), Rd Hc x (.dK (rowK l)) → i ∈ keys l → DGet Hc x (.int (i : Int)) (some (.int (Halves.get l i))) := fun Hc x l i hx hi =>
      .inl ⟨_, Sum.inl (i : Int), hx, rfl, by rw [valV_rowK, if_pos ((Halves.has_iff l i).2 hi)]⟩
    have dgA : ∀ {Hc : Hp}, Same H Hc → DGet Hc a (.int (p : Int)) (some (.int (Halves.get r p))) := fun {Hc} e => dget _ a r p (.inl (e _ _ ha)) hgr
    have dgB : ∀ {Hc : Hp}, Same H Hc → DGet Hc b (.int (p : Int)) (some (.int (Halves.get o p))) := fun {Hc} e => dget _ b o p (.inl (e _ _ hb)) hgo
    have hc0 : (Int.gcd (Halves.get r p) (Halves.get o p)) ≠ 0 := by
      intro h; rw [Int.gcd_eq_zero_iff] at h; exact hrp h.1
    have hcl : ((Int.gcd (Halves.get r p) (Halves.get o p) : Nat) : Int).natAbs < 2 ^ n := by
      refine Nat.lt_of_le_of_lt (Nat.le_of_dvd (by omega) (Int.natAbs_dvd_natAbs.2 (Int.gcd_dvd_left ..))) (get_lt zr cr.nodup p)
    have n0 : 0 < n := by
      rcases Nat.eq_zero_or_pos n with h | h
      · rw [h] at hcl; simp at hcl; omega
      · exact h
    have hdiv : CDivW (Halves.get o p) ((Nat.gcd (Halves.get r p).natAbs (Halves.get o p).natAbs : Nat) : Int) := wide_div (by show (0 : Int) < (Int.gcd (Halves.get r p) (Halves.get o p) : Nat); omega) hcl n0 (by omega)
    have hdiv' : CDivW (Halves.get r p) ((Nat.gcd (Halves.get r p).natAbs (Halves.get o p).natAbs : Nat) : Int) := hdiv
    refine ⟨_, rfl, _, rfl, a, _, rfl, dgA (Same.refl H), _, rfl, _, rfl, b, _, rfl, dgB (Same.refl H), _, _, rfl, ?_⟩
    refine ⟨_, rfl, _, rfl, b, _, rfl, dgB (Same.refl H), _, rfl, _, _, rfl, rfl, hdiv, ?_⟩
    refine ⟨_, rfl, _, rfl, a, _, rfl, dgA (Same.refl H), _, rfl, _, _, rfl, rfl, hdiv', ?_⟩
    have qlt : ∀ (x : Int) (c : Int), x.natAbs < 2 ^ n → (x / c).natAbs < 2 ^ n := fun x c hx => by
      refine Nat.lt_of_le_of_lt ?_ hx
      exact Int.natAbs_ediv_le_natAbs x c
    have htl : (Halves.get o p / ((Nat.gcd (Halves.get r p).natAbs (Halves.get o p).natAbs : Nat) : Int)).natAbs < 2 ^ n := qlt _ _ (get_lt zo co.nodup p)
    have hml : (Halves.get r p / ((Nat.gcd (Halves.get r p).natAbs (Halves.get o p).natAbs : Nat) : Int)).natAbs < 2 ^ n := qlt _ _ (get_lt zr cr.nodup p)
    have ecl : Halves.cleared r o p = Halves.trimmed (lessRow (Halves.clearSign r o p * (Halves.get r p / ((Nat.gcd (Halves.get r p).natAbs (Halves.get o p).natAbs : Nat) : Int))) (timesRow (Halves.clearSign r o p * (Halves.get o p / ((Nat.gcd (Halves.get r p).natAbs (Halves.get o p).natAbs : Nat) : Int))) r) o) := rfl
    have esg : Halves.clearSign r o p = if Halves.get o p / ((Nat.gcd (Halves.get r p).natAbs (Halves.get o p).natAbs : Nat) : Int) < 0 then -1 else 1 := rfl
    rw [ecl, esg] at k
    refine ⟨_, rfl, _, _, rfl, rfl, _, rfl, ?_⟩
    dsimp only []
    generalize (Halves.get o p / ((Nat.gcd (Halves.get r p).natAbs (Halves.get o p).natAbs : Nat) : Int)) = t at htl k ⊢
    generalize (Halves.get r p / ((Nat.gcd (Halves.get r p).natAbs (Halves.get o p).natAbs : Nat) : Int)) = m at hml k ⊢
    generalize ((Nat.gcd (Halves.get r p).natAbs (Halves.get o p).natAbs : Nat) : Int) = c
    refine ite2 (fun ht => ?_) fun ht => ?_
    case' refine_2.refine_1 =>
      have h0 : t < 0 := of_decide_eq_true ht
      rw [if_pos h0, Int.neg_one_mul, Int.neg_one_mul] at k
      refine ⟨_, rfl, _, rfl, _, rfl, _, rfl, ?_⟩
      dsimp only []
      have htl2 : (-t).natAbs < 2 ^ n := by simpa using htl
      have hml2 : (-m).natAbs < 2 ^ n := by simpa using hml
      clear htl hml hdiv hdiv' hcl hc0 esg ecl h0 ht
      generalize -t = t' at htl2 k
      generalize -m = m' at hml2 k
      revert k hml2 htl2
      revert t' m'
      intro t m htl hml k
    case' refine_2.refine_2 =>
      have h0 : ¬ t < 0 := by simpa using ht
      rw [if_neg h0, Int.one_mul, Int.one_mul] at k
      clear hdiv hdiv' hcl hc0 esg ecl h0 ht
    all_goals
      refine ⟨_, rfl, a, _, rfl, .inl ha, fun d hd => ?_⟩
      show tSeq _ _ _ [some (.ref a), some (.ref b), some (.int (p : Int)), some (.int c), some (.int t), some (.int m), some (.ref d), none] _
      have hda : d ≠ a := by intro e; rw [e, ha] at hd; cases hd
      have hdb : d ≠ b := by intro e; rw [e, hb] at hd; cases hd
      have lenT : (timesRow t r).length = r.length := by simp [timesRow]
      have nodT : (keys (timesRow t r)).Nodup := by rw [Halves.keys_times]; exact cr.nodup
      -- the last row
      have rest3 : ∀ (Hc : Hp) x, Same H Hc → Hc d = some (.dK (rowK (lessRow m (timesRow t r) o))) → tRet (tCall spTrimmed [] E0 (tCons (tVar 6) tNil)) { nx := fun x H' => Q V.non H', rt := Q } [some (.ref a), some (.ref b), some (.int (p : Int)), some (.int c), some (.int t), some (.int m), some (.ref d), x] Hc := fun Hc x hs hD => by
        refine ⟨_, rfl, d, _, rfl, hD, Halves.nodup_less m o _ nodT, ?_, ?_, fun H' q hs' hq hv => k H' q (hs.trans hs') (hs.free hq) hv⟩
        · have := lessRow_length m o (timesRow t r)
          omega
        · intro q hq
          have e1 := Halves.get_of_mem _ q (Halves.nodup_less m o _ nodT) hq
          rw [Halves.get_less m o _ q.1 co.nodup, Halves.get_times] at e1
          rw [← e1]
          have a1 := wide_lt htl (get_lt zr cr.nodup q.1)
          have a2 := wide_lt hml (get_lt zo co.nodup q.1)
          have a3 : (2 : Nat) ^ (n + n) + 2 ^ (n + n) ≤ 2 ^ 9000 := by
            have : (2 : Nat) ^ (n + n + 1) ≤ 2 ^ 9000 := Nat.pow_le_pow_right (by decide) (by omega)
            rw [Nat.pow_succ] at this; omega
          omega
      have cm : ∀ {u v : Int}, u.natAbs < 2 ^ n → v.natAbs < 2 ^ n → CMulW u v := fun hu hv => wide_mul hu hv n0 n0 (by omega)
      have rest2 : ∀ (Hc : Hp) x, Same H Hc → Hc d = some (.dK (rowK (timesRow t r))) → tSeq (tLock (tFor (iKeys (tVar 1)) (gName 7) (sDPut (tVar 6) (tVar 7) (tOp (rI0 fun i j => V.int (i - j)) (tDGet2 (tVar 6) (tVar 7) (tC (V.int 0))) (tOp (rI CMulW fun i j => V.int (i * j)) (tVar 5) (tDGet (tVar 1) (tVar 7)))))))
          (tRet (tCall spTrimmed [] E0 (tCons (tVar 6) tNil))) { nx := fun x H' => Q V.non H', rt := Q } [some (.ref a), some (.ref b), some (.int (p : Int)), some (.int c), some (.int t), some (.int m), some (.ref d), x] Hc := fun Hc x hs hD => by
        refine ⟨b, _, hs _ _ hb, trivial, fun od => ⟨_, rfl, b, od, rfl, .inl ⟨_, upd_same, ?_⟩⟩⟩
        refine for_keys (fun i σ Hk => Hk b = some (.frz od (.dK (rowK o))) ∧ (∀ y o', y ≠ b → H y = some o' → Hk y = some o') ∧ Hk d = some (.dK (rowK (lessRow m (timesRow t r) (o.take i)))) ∧ ∃ x, σ = [some (.ref a), some (.ref b), some (.int (p : Int)), some (.int c), some (.int t), some (.int m), some (.ref d), x]) ⟨upd_same, fun y o' hy ho => by rw [upd_ne hy]; exact hs _ _ ho, by rw [upd_ne hdb]; exact hD, x, rfl⟩ ?_ ?_ ?_
        · rintro i σ Hk _ ⟨h, _⟩; exact h
        · rintro i kk v σ Hk hi ⟨hB, hk, hD2, x2, rfl⟩
          obtain ⟨q, hq, rfl, rfl⟩ := rowK_get o i kk v hi
          have hqm : q ∈ o := List.mem_of_getElem? hq
          have dg : DGet Hk b (.int (q.1 : Int)) (some (.int (Halves.get o q.1))) := dget Hk b o q.1 (.inr ⟨od, hB⟩) (List.mem_map.2 ⟨q, hqm, rfl⟩)
          have hlen : (rowK (lessRow m (timesRow t r) (o.take i))).length < sizeLine := by
            rw [rowK_length]
            have := lessRow_length m (o.take i) (timesRow t r)
            have h2 : (o.take i).length ≤ o.length := by simp; omega
            exact small1000 (by omega)
          refine ⟨_, rfl, d, rfl, .inl ⟨_, .inl hD2⟩, _, rfl, _, DGet.k (k := Sum.inl (q.1 : Int)) hD2, _, rfl, _, rfl, _, rfl, b, _, rfl, dg, _, _, rfl, rfl, cm hml (get_lt zo co.nodup q.1), ?_⟩
          rw [getD_row]
          refine ⟨_, _, rfl, rfl, _, rfl, _, rfl, d, _, rfl, DPut.k (k := Sum.inl (q.1 : Int)) hD2 hlen, ?_⟩
          rw [putK_row _ (Halves.nodup_less m _ _ nodT), Halves.get_of_mem o q co.nodup hqm, ← lessRow_snoc, ← take_snoc o i q hq]
          exact ⟨by rw [upd_ne (Ne.symm hdb)]; exact hB, fun y o' hy ho => by rw [upd_ne (by intro e; rw [e, hd] at ho; cases ho)]; exact hk y o' hy ho, upd_same, _, rfl⟩
        · rintro σ Hk ⟨hB, hk, hD2, x2, rfl⟩
          rw [rowK_length, List.take_length] at hD2
          refine ⟨hB, rest3 _ x2 (fun y o' ho => ?_) (by rw [upd_ne hdb]; exact hD2)⟩
          by_cases ey : y = b
          · subst ey; rw [upd_same, ← hb]; exact ho
          · rw [upd_ne ey]; exact hk y o' ey ho
      have hs1 : Same H (upd H d (.dK (rowK r))) := fun y o' ho => by rw [upd_ne (by intro e; rw [e, hd] at ho; cases ho)]; exact ho
      refine ⟨_, rfl, rfl, _, rfl, ?_⟩
      by_cases ht1 : t = 1
      · subst ht1
        refine iteF (rest2 _ _ hs1 ?_)
        rw [upd_same]
        have : timesRow 1 r = r := by simp [timesRow]
        rw [this]
      have e1 : (!decide (V.int t = V.int 1)) = true := by simpa using ht1
      rw [e1]
      refine iteT ?_
      refine ⟨a, _, hs1 _ _ ha, trivial, fun od => ⟨_, rfl, a, od, rfl, .inl ⟨_, upd_same, ?_⟩⟩⟩
      have mix_nd : ∀ i, (keys (timesRow t (r.take i) ++ r.drop i)).Nodup := fun i => by
        have e : keys (timesRow t (r.take i) ++ r.drop i) = keys r := by
          show ((timesRow t (r.take i)) ++ r.drop i).map (·.1) = _
          rw [List.map_append]
          show keys (timesRow t (r.take i)) ++ keys (r.drop i) = keys r
          rw [Halves.keys_times]
          show (r.take i).map (·.1) ++ (r.drop i).map (·.1) = _
          rw [← List.map_append, List.take_append_drop]; rfl
        rw [e]; exact cr.nodup
      have put_app : ∀ (l l' : Halves.Row) (k : Nat) (v u : Int), k ∉ keys l → put (l ++ (k, u) :: l') k v = l ++ (k, v) :: l' := fun l => by
        induction l with
        | nil => intro l' k v u _; simp [put]
        | cons x l ih =>
          intro l' k v u hk
          have h1 : x.1 ≠ k ∧ k ∉ keys l := by simp only [keys, List.map_cons, List.mem_cons, not_or] at hk; exact ⟨fun e => hk.1 e.symm, hk.2⟩
          obtain ⟨x1, x2⟩ := x
          simp only [List.cons_append, put]
          rw [if_neg h1.1, ih l' k v u h1.2]
      refine for_keys (fun i σ Hk => Hk a = some (.frz od (.dK (rowK r))) ∧ (∀ y o', y ≠ a → H y = some o' → Hk y = some o') ∧ Hk d = some (.dK (rowK (timesRow t (r.take i) ++ r.drop i))) ∧ ∃ x, σ = [some (.ref a), some (.ref b), some (.int (p : Int)), some (.int c), some (.int t), some (.int m), some (.ref d), x]) ⟨upd_same, fun y o' hy ho => by rw [upd_ne hy]; exact hs1 _ _ ho, by rw [upd_ne hda, upd_same]; rfl, _, rfl⟩ ?_ ?_ ?_
      · rintro i σ Hk _ ⟨h, _⟩; exact h
      · rintro i kk v σ Hk hi ⟨hA, hk, hD2, x2, rfl⟩
        obtain ⟨q, hq, rfl, rfl⟩ := rowK_get r i kk v hi
        have hqm : q ∈ r := List.mem_of_getElem? hq
        have dg : DGet Hk a (.int (q.1 : Int)) (some (.int (Halves.get r q.1))) := dget Hk a r q.1 (.inr ⟨od, hA⟩) (List.mem_map.2 ⟨q, hqm, rfl⟩)
        have hlen : (rowK (timesRow t (r.take i) ++ r.drop i)).length < sizeLine := by
          rw [rowK_length]
          have h2 : (timesRow t (r.take i) ++ r.drop i).length ≤ r.length := by simp [timesRow]; omega
          exact small1000 (by omega)
        have hnew : q.1 ∉ keys (timesRow t (r.take i)) := by
          rw [Halves.keys_times]; exact take_new r i q hq cr.nodup
        refine ⟨_, rfl, _, rfl, _, rfl, a, _, rfl, dg, _, _, rfl, rfl, cm htl (get_lt zr cr.nodup q.1), _, rfl, _, rfl, d, _, rfl, DPut.k (k := Sum.inl (q.1 : Int)) hD2 hlen, ?_⟩
        obtain ⟨hi', eq⟩ := List.getElem?_eq_some_iff.1 hq
        have ed : r.drop i = (q.1, q.2) :: r.drop (i + 1) := by rw [List.drop_eq_getElem_cons hi', eq]
        rw [putK_row _ (mix_nd i), ed, put_app _ _ _ _ _ hnew, Halves.get_of_mem r q cr.nodup hqm]
        have e3 : timesRow t (r.take i) ++ (q.1, t * q.2) :: r.drop (i + 1) = timesRow t (r.take (i + 1)) ++ r.drop (i + 1) := by
          rw [take_snoc r i q hq, timesRow_snoc, List.append_assoc]; rfl
        rw [e3]
        exact ⟨by rw [upd_ne (Ne.symm hda)]; exact hA, fun y o' hy ho => by rw [upd_ne (by intro e; rw [e, hd] at ho; cases ho)]; exact hk y o' hy ho, upd_same, _, rfl⟩
      · rintro σ Hk ⟨hA, hk, hD2, x2, rfl⟩
        rw [rowK_length, List.take_length, List.drop_length, List.append_nil] at hD2
        refine ⟨hA, rest2 _ x2 (fun y o' ho => ?_) (by rw [upd_ne hda]; exact hD2)⟩
        by_cases ey : y = a
        · subst ey; rw [upd_same, ← ha]; exact ho
        · rw [upd_ne ey]; exact hk y o' ey ho
end
end L2.EH
end S_K4
section S_K5
set_option maxRecDepth 100000
set_option maxHeartbeats 4000000
namespace L2.EH
open PySem PySem.Spec PyProof.Rows
open L2.Halves (has keys Clean)
/-- an echelon as it stands: a list of pairs (pivot, row) -/
def EchAt (K : PySem.W.Frag) (H : Hp) (x : V) (q : Nat × Halves.Row) : Prop := ∃ (t d : Addr), x = .ref t ∧ H t = some (.tup [.int (q.1 : Int), .ref d]) ∧ H d = some (.dK (rowK q.2))
def EchK (K : PySem.W.Frag) (H : Hp) (e : Addr) (E : List (Nat × Halves.Row)) : Prop := ∃ xs : List V, SqL K H e xs ∧ xs.length = E.length ∧ ∀ i (h : i < E.length) (h' : i < xs.length), EchAt K H xs[i] E[i]
/-- what each clearing on the way asks -/
def RedOk (n : Nat) : Halves.Row → List (Nat × Halves.Row) → Prop
  | _, [] => True
  | row, (p, r) :: E => (has row p = true → Clean row ∧ Clean r ∧ row.length + r.length ≤ 900 ∧ Halves.get r p ≠ 0 ∧ (∀ q, q ∈ row → q.2.natAbs < 2 ^ n) ∧ (∀ q, q ∈ r → q.2.natAbs < 2 ^ n)) ∧
      RedOk n (if has row p = true then Halves.cleared row r p else row) E
theorem scReduced : FnScope ["row", "echelon", "pivot", "other"] ["row", "echelon"] (defScope sReduced) := ⟨rfl, rfl, rfl, by decide +kernel, rfl, by decide +kernel, by decide +kernel⟩
def spReduced (K : PySem.W.Frag) : Sp := fun vs H Q _ => ∃ (a e : Addr) (r : Halves.Row) (E : List (Nat × Halves.Row)) (n : Nat), vs = [.ref a, .ref e] ∧ H a = some (.dK (rowK r)) ∧ EchK K H e E ∧ RedOk n r E ∧ n ≤ 4400 ∧
  ∀ H' q, Same H H' → H' q = some (.dK (rowK (Halves.reduced r E))) → Q (.ref q) H'
section
variable {P : Program} {w : World} {K : PySem.W.Frag} {mg : Str → Option Value} {base : Heap}
theorem ok_reduced {f fC : Addr} {fd fdC : FuncData} (F : Fun K "reduced" "reduced" sReduced f fd) (FC : FnOk P w K mg base CX0 2 fC fdC ["row", "other", "pivot"] spCleared) (bC : Binds K fdC ["row", "other", "pivot"] []) (mC : mg "cleared" = some (.ref fC)) (kC : PySem.W.keepIn K (.ref fC) = true) :
    FnOk P w K mg base CX0 3 f fd ["row", "echelon"] (spReduced K) := by
  refine F.ok scReduced (fun vs H Q E h => ?_) (fun cdv A outer s H vs Q E hr h => ?_)
  · obtain ⟨a, e, r, E, n, rfl, _⟩ := h
    rfl
  · obtain ⟨a, e, r, E', n, rfl, ha, he, hok, hn, k⟩ := h
    have hu := hu_of hr
    have nd := scReduced.nd
    obtain ⟨xs, hx, hlen, hat⟩ := he
    refine ⟨_, pss_cons (ps_for PassesOwn.never rfl (pi_list (pv 1)) (pg_tup rfl (pgs_cons (pg_name (i := 2) nd rfl (Or.inl rfl)) (pgs_cons (pg_name (i := 3) nd rfl (Or.inl rfl)) pgs_nil)))
        (pss_one (ps_if (pt_cmp (pc_din hu (pv 2) (pv 0))) (pss_one (ps_set (i := 0) nd rfl (Or.inl rfl) (pe_call FC hr rfl mC kC bC .nil pass0 (pa_cons (pv 0) (pa_cons (pv 3) (pa_cons (pv 2) pa_nil)))))) pss_nil)))
      (pss_one (ps_ret (pv 0))), ?_⟩
    refine ⟨_, rfl, e, rfl, ⟨_, hx⟩, for_list (xs := xs) (fun i σ Hk => Same H Hk ∧ ∃ (q : Addr) (ro : Halves.Row) (x y : Option V), σ = [some (.ref q), some (.ref e), x, y] ∧ Hk q = some (.dK (rowK ro)) ∧ RedOk n ro (E'.drop i) ∧ Halves.reduced r E' = Halves.reduced ro (E'.drop i)) ⟨Same.refl H, a, r, _, _, rfl, ha, hok, rfl⟩ ?_ ?_ ?_⟩
    · rintro i σ Hk _ ⟨hs, _⟩
      exact hs.seq hx
    · rintro i x σ Hk hxi ⟨hs, q, ro, x1, y1, rfl, hq, hok', hred⟩
      obtain ⟨hi, ex⟩ := List.getElem?_eq_some_iff.1 hxi
      have hi' : i < E'.length := by omega
      obtain ⟨t, d, ext, ht, hd⟩ := hat i hi' hi
      rw [ex] at ext
      subst ext
      have ed : E'.drop i = (E'[i].1, E'[i].2) :: E'.drop (i + 1) := by rw [List.drop_eq_getElem_cons hi']
      rw [ed] at hok' hred
      obtain ⟨hstep, hok2⟩ := hok'
      refine ⟨t, _, rfl, SqT.of (hs _ _ ht), rfl, _, _, rfl, _, _, rfl, rfl, ?_⟩
      refine ⟨_, rfl, _, rfl, q, _, rfl, DGet.k (k := Sum.inl (E'[i].1 : Int)) hq, _, rfl, ?_⟩
      rw [valV_rowK]
      by_cases hh : has ro E'[i].1 = true
      · rw [if_pos hh]
        obtain ⟨c1, c2, c3, c4, c5, c6⟩ := hstep hh
        have hne : Halves.get ro E'[i].1 ≠ 0 := c1.get_ne.2 ((Halves.has_iff ro _).1 hh)
        rw [if_pos hh] at hok2
        have hred2 : Halves.reduced r E' = Halves.reduced (Halves.cleared ro E'[i].2 E'[i].1) (E'.drop (i + 1)) := by
          rw [hred]; simp only [Halves.reduced]; rw [if_pos hh]
        refine iteT ⟨_, rfl, _, rfl, _, rfl, q, d, ro, E'[i].2, E'[i].1, n, rfl, hq, hs _ _ hd, c1, c2, c3, hne, c4, c5, c6, hn, fun H' p' hs' hnp hp' => ?_⟩
        exact ⟨hs.trans hs', p', _, _, _, rfl, hp', hok2, hred2⟩
      · rw [if_neg hh]
        rw [if_neg hh] at hok2
        have hred2 : Halves.reduced r E' = Halves.reduced ro (E'.drop (i + 1)) := by
          rw [hred]; simp only [Halves.reduced]; rw [if_neg hh]
        exact iteF ⟨hs, q, ro, _, _, rfl, hq, hok2, hred2⟩
    · rintro σ Hk ⟨hs, q, ro, x1, y1, rfl, hq, hok', hred⟩
      rw [hlen, List.drop_length] at hred
      refine ⟨_, rfl, k Hk q hs ?_⟩
      rw [hred]; exact hq
end
end L2.EH
end S_K5
section S_K6
set_option maxRecDepth 100000
set_option maxHeartbeats 4000000
namespace L2.EH
open PySem PySem.Spec PyProof.Rows
open L2.Halves (has keys Clean sumOf)
theorem scSumOf : FnScope ["factors", "values", "at"] ["factors", "values"] (defScope sSumOf) := ⟨rfl, rfl, rfl, by decide +kernel, rfl, by decide +kernel, by decide +kernel⟩
structure Nm6 (mg : Str → Option Value) : Prop where
  sum : mg "sum" = none
def spSumOf (K : PySem.W.Frag) : Sp := fun vs H Q _ => ∃ (a b : Addr) (r : Halves.Row) (ns : List Int) (n m : Nat), vs = [.ref a, .ref b] ∧ H a = some (.dK (rowK r)) ∧ SqL K H b (ns.map V.int) ∧ (keys r).Nodup ∧ (∀ i, i ∈ keys r → i < ns.length) ∧ r.length ≤ 900 ∧
  (∀ p, p ∈ r → p.2.natAbs < 2 ^ n) ∧ (∀ z, z ∈ ns → z.natAbs < 2 ^ m) ∧ 0 < n ∧ 0 < m ∧ n + m ≤ 1000000 ∧ ∀ H', Same H H' → Q (.int (sumOf r ns)) H'
def prods (r : Halves.Row) (ns : List Int) : List Int := r.map (fun p => p.2 * ns.getD p.1 0)
section
variable {P : Program} {w : World} {K : PySem.W.Frag} {mg : Str → Option Value} {base : Heap}
theorem ok_sumOf {f : Addr} {fd : FuncData} (F : Fun K "sum_of" "sum_of" sSumOf f fd) (B : Nm6 mg) : FnOk P w K mg base CX0 1 f fd ["factors", "values"] (spSumOf K) := by
  refine F.ok scSumOf (fun vs H Q E h => ?_) (fun cdv A outer s H vs Q E hr h => ?_)
  · obtain ⟨a, b, r, ns, n, m, rfl, _⟩ := h
    rfl
  · obtain ⟨a, b, r, ns, n, m, rfl, ha, hb, hn, hk, hl, hz, hy, n0, m0, hnm, k⟩ := h
    have hu := hu_of hr
    have nd := scSumOf.nd
    refine ⟨_, pss_one (ps_ret (pe_callB (cr_sum rfl) (by rfl) B.sum (by decide +kernel) (pa_cons (pe_lock (pe_lc (own := [("at", 2)]) (g := gName 2) (tt := tYes) (te := tOp (rI CMulW fun i j => .int (i * j)) (tDGet (tVar 0) (tVar 2)) (tOp (rIxL K) (tVar 1) (tVar 2))) rfl nd (pi_keys (pv 0)) (blkOk_by (N := ["factors", "values", "at"]) (sc := defScope sSumOf) (by decide +kernel))
        (fun _ _ _ _ _ => pg_name (i := 2) nd rfl (Or.inl rfl) (Or.inr rfl)) (fun _ _ _ _ _ => pts_nil)
        (fun _ _ _ _ _ => pe_op op_mulW (pe_dget (by exact hu) (pv 0) (pv 2) (fun _ _ => rfl)) (pe_ix ix_list (pv 1) (pv 2) (fun _ _ => rfl))))) pa_nil))), ?_⟩
    refine ⟨a, _, ha, trivial, fun od => ⟨_, rfl, a, od, rfl, .inl ⟨_, upd_same, fun D nD => ?_⟩⟩⟩
    have hDa : D ≠ a := by intro e; rw [e, upd_same] at nD; cases nD
    have nD' : H D = none := by rw [upd_ne hDa] at nD; exact nD
    refine ⟨fun i mm Hc => i ≤ r.length ∧ mm = r.length - i ∧ Hc a = some (.frz od (.dK (rowK r))) ∧ (∀ y o', y ≠ a → H y = some o' → Hc y = some o') ∧ Hc D = some (.lst ((prods (r.take i) ns).map V.int)), ⟨r.length, Nat.zero_le _, rfl, ?_, ?_, ?_⟩, ?_⟩
    · rw [upd_ne (Ne.symm hDa), upd_same]
    · intro y o' hy ho
      rw [upd_ne (by intro e; rw [e, nD'] at ho; cases ho), upd_ne hy]; exact ho
    · rw [upd_same]; rfl
    · rintro i mm Hc ⟨hi, rfl, hA, hs, hD⟩
      have same : Same H (upd Hc a (.dK (rowK r))) := fun y o' ho => by
        by_cases ey : y = a
        · subst ey; rw [upd_same, ← ha]; exact ho
        · rw [upd_ne ey]; exact hs y o' ey ho
      by_cases hlt : i < r.length
      · refine .inr ⟨⟨hA, by rw [rowK_length]; exact hlt⟩, fun H' => H' a = some (.frz od (.dK (rowK r))) ∧ (∀ y o', y ≠ a → H y = some o' → H' y = some o') ∧ H' D = some (.lst ((prods (r.take (i + 1)) ns).map V.int)), fun H' h => ⟨r.length - (i + 1), by omega, by omega, rfl, h⟩, fun x' H' y => ?_⟩
        obtain ⟨rfl, kk, v, hkv, rfl⟩ := y
        obtain ⟨p, hp, rfl, rfl⟩ := rowK_get r i kk v hkv
        have hpm : p ∈ r := List.mem_of_getElem? hp
        have hpk : p.1 ∈ keys r := List.mem_map.2 ⟨p, hpm, rfl⟩
        have hv : valV (rowK r) (Sum.inl (p.1 : Int)) = some (V.int p.2) := by
          rw [valV_rowK, if_pos ((Halves.has_iff r p.1).2 hpk), Halves.get_of_mem r p hn hpm]
        have dg : DGet H' a (kV (Sum.inl (p.1 : Int))) (some (V.int p.2)) := .inl ⟨_, Sum.inl (p.1 : Int), .inr ⟨od, hA⟩, rfl, hv.symm⟩
        have hlt2 : p.1 < ns.length := hk p.1 hpk
        have hb2 : SqL K H' b (ns.map V.int) := by
          -- b is a list, so it is not a
          rcases hb with (h | ⟨o', h⟩) | h
          · exact .inl (.inl (hs b _ (by intro e; rw [e, ha] at h; cases h) h))
          · exact .inl (.inr ⟨o', hs b _ (by intro e; rw [e, ha] at h; cases h) h⟩)
          · exact .inr h
        refine ⟨rfl, ?_⟩
        refine ⟨_, rfl, _, rfl, a, _, rfl, dg, _, rfl, _, rfl, b, _, _, _, rfl, rfl, hb2, atI_nat (by rw [List.getElem?_map, List.getElem?_eq_getElem hlt2]; rfl), _, _, rfl, rfl, wide_mul (hz p hpm) (hy _ (List.getElem_mem hlt2)) n0 m0 hnm, _, hD, ?_, ?_⟩
        · have : (r.take i).length ≤ r.length := by simp; omega
          refine small1000 ?_
          simp [prods]; omega
        · refine ⟨by rw [upd_ne (Ne.symm hDa)]; exact hA, fun y o' hy' ho => by rw [upd_ne (by intro e; rw [e, nD'] at ho; cases ho)]; exact hs y o' hy' ho, ?_⟩
          rw [upd_same, take_snoc r i p hp]
          simp [prods, List.getD, List.getElem?_eq_getElem hlt2]
      · have e : i = r.length := by omega
        rw [e, List.take_length] at hD
        refine .inl ⟨⟨hA, by rw [rowK_length]; omega⟩, hA, D, prods r ns, rfl, SqL.of (by rw [upd_ne hDa]; exact hD), ?_⟩
        exact k _ same
end
end L2.EH
end S_K6
section S_C1
set_option maxRecDepth 100000
set_option maxHeartbeats 4000000
namespace PySem
open Sem (wp)
section
variable {prog : Program} {w : World} {K : Type} [DecidableEq K] {knd : KeyKind prog w K} {A : Around} {E : Value → Shared → Prop} {s : Shared}
theorem wpAny_dictPut_pairs {d : Addr} {kvs : List (K × Value)} {k : K} {key v : Value} {Q : Unit → Shared → Prop} (hkey : knd.is k key = true) (hm : s.heap.DictOf knd d kvs)
    (hQ : ∀ h', h'.DictOf knd d (stored kvs k v) → Heap.SameBut d s.heap h' → Q () { s with heap := h' })
    (hsz : kvs.length ≤ sizeLine) :
    wpAny (model prog w) A (dictPut d (knd.hash k) key v) Q E s := by
  obtain ⟨o, es, ep, ho, hc, hd, hk, hp, hn⟩ := hm
  have hes : es.size ≤ sizeLine := by have e1 := hp.length; have e2 : es.toList.length = es.size := by simp
                                      omega
  unfold dictPut
  refine wpAny_bind (wpAny_dictFind_of hkey ho hd hk ?_)
  have hidx : (es.findIdx? fun e => knd.is k e.key) = kvs.findIdx? fun kv => decide (kv.1 = k) := by
    rw [← hp.findIdx k]; obtain ⟨l⟩ := es; simp
  cases hi : es.findIdx? fun e => knd.is k e.key with
  | some i =>
    refine wpAny_updateDict ho hd (hQ _ ⟨_, _, ep, Heap.get?_update_self _ ho (Obj.isFreed_of_dict (Obj.data_mapDict hd _)),
      hc.mapDict _, Obj.data_mapDict hd _, hk.modify _ _, ?_, ?_⟩ (Heap.SameBut.update ..))
    · rw [stored, if_pos (any_of_findIdx_some (hidx ▸ hi))]
      have hl : (es.toList.findIdx? fun e => knd.is k e.key) = some i := by rw [← hi]; obtain ⟨l⟩ := es; simp
      have := hp.modify hn hl v
      obtain ⟨l⟩ := es
      simpa using this
    · rw [stored, if_pos (any_of_findIdx_some (hidx ▸ hi)), keys_map_store]; exact hn
  | none =>
    have hnot : k ∉ kvs.map (·.1) := not_mem_of_findIdx_none (hidx ▸ hi)
    have hany : ¬ (kvs.any fun kv => decide (kv.1 = k)) = true := by
      rw [List.any_eq_true]; rintro ⟨kv, hkv, he⟩
      exact hnot (List.mem_map.mpr ⟨kv, hkv, of_decide_eq_true he⟩)
    refine wpAny_updateDictKeys (hz := hes) ho hd (hQ _ ⟨_, _, ep + 1, Heap.get?_update_self _ ho (Obj.isFreed_of_dict (Obj.data_mapDictKeys hd _)),
      hc.mapDictKeys _, Obj.data_mapDictKeys hd _, hk.push hkey _, ?_, ?_⟩ (Heap.SameBut.update ..))
    · rw [stored, if_neg hany]
      have := hp.append hkey (knd.hash k) v
      obtain ⟨l⟩ := es
      simpa using this
    · rw [stored, if_neg hany, List.map_append, List.nodup_append]
      refine ⟨hn, by simp, ?_⟩
      intro a ha b hb
      simp only [List.map_cons, List.map_nil, List.mem_singleton] at hb
      subst hb
      exact fun e => hnot (e ▸ ha)
theorem wpAny_mergeMapping {d o : Addr} {kvs more : List (K × Value)} {Q : Unit → Shared → Prop} (hnoref : ∀ k a, knd.is k (.ref a) = false) (hdo : d ≠ o) (hoS : (o == sysModules) = false)
    (hd : s.heap.DictOf knd d kvs) (ho : s.heap.DictOf knd o more)
    (hQ : ∀ h', h'.DictOf knd d (merged kvs more) → h'.DictOf knd o more → Heap.SameBut d s.heap h' → Q () { s with heap := h' })
    (hsz : kvs.length + more.length ≤ sizeLine) :
    wpAny (model prog w) A (mergeMapping d (.ref o) false) Q E s := by
  obtain ⟨od, esd, epd, hod, hcd, hdd, hkd, hpd, hnd⟩ := id hd
  obtain ⟨oo, eso, epo, hoo, hco, hdo', hko, hpo, hno⟩ := id ho
  have hlen : more.length = eso.size := by rw [← hpo.length]; simp
  unfold mergeMapping
  refine wpAny_bind (wpAny_isInstance ho.typeIs isSubtype_dict_dict ?_)
  simp only [if_true]
  refine wpAny_bind (wpAny_specialOf ho.typeIs F.slot_dict_iter.lookup ?_)
  refine wpAny_bind (wpAny_pure ?_)
  simp only [beq_self_eq_true]
  rw [if_neg (by rw [hoS]; exact Bool.false_ne_true)]
  refine wpAny_bind (wpAny_dictEntries hod hdd ?_)
  have main : ∀ Q' : PUnit → Shared → Prop, (∀ h', h'.DictOf knd d (merged kvs more) → h'.DictOf knd o more → Heap.SameBut d s.heap h' → Q' PUnit.unit { s with heap := h' }) →
    wpAny (model prog w) A (forIn (List.range eso.size) PUnit.unit fun i (_ : PUnit) => (do
                    let __do_lift ← dictEntries o
                    match __do_lift[i]? with
                      | some e => do
                        holding [e.key, e.val]
                            (if false = true then do
                              let __do_lift ← dictFind d e.key e.hash
                              if __do_lift.isSome = true then do
                                  rule "dict.merge.duplicate-key"
                                  let __do_lift ← newExc (Value.type "KeyError") [e.key]
                                  raiseNew __do_lift
                                  dictPut d e.hash e.key e.val
                                else dictPut d e.hash e.key e.val
                            else dictPut d e.hash e.key e.val)
                        let __do_lift ← dictEpoch o
                        if (__do_lift != epo) = true then do
                            (unsupported "dict.changed-during-merge" : Sem PUnit)
                            pure (ForInStep.yield PUnit.unit)
                          else pure (ForInStep.yield PUnit.unit)
                      | x => do
                        (unsupported "dict.changed-during-merge" : Sem PUnit)
                        pure (ForInStep.yield PUnit.unit) : Sem (ForInStep PUnit))) Q' E s := by
    intro Q' hQ'
    refine wpAny_forIn_list _
      (fun rest _ s' => ∃ h' i, s' = { s with heap := h' } ∧ rest = List.range' i (eso.size - i) ∧ i ≤ eso.size ∧ h'.DictOf knd d (merged kvs (more.take i)) ∧ h'.get? o = some oo ∧ Heap.SameBut d s.heap h')
      _ ?_ ?_ _ _ ⟨s.heap, 0, rfl, by rw [List.range_eq_range']; simp, Nat.zero_le _, by simpa [merged] using hd, hoo, Heap.SameBut.refl _ _⟩
    · rintro x rest b s' ⟨h', i, rfl, hr, hi, hd', hoo', hs'⟩
      have hlt : i < eso.size := by
        rcases Nat.lt_or_ge i eso.size with h | h
        · exact h
        · rw [Nat.sub_eq_zero_of_le h] at hr; simp at hr
      obtain ⟨rfl, hrest⟩ : x = i ∧ rest = List.range' (i + 1) (eso.size - (i + 1)) := by
        have e : eso.size - i = (eso.size - (i + 1)) + 1 := by omega
        rw [e, List.range'_succ] at hr
        injection hr with h1 h2
        exact ⟨h1, h2⟩
      refine wpAny_bind (wpAny_dictEntries hoo' hdo' ?_)
      rw [Array.getElem?_eq_getElem hlt]
      obtain ⟨kv, hkv⟩ : ∃ kv, more[x]? = some kv := ⟨more[x]'(by rw [hlen]; exact hlt), List.getElem?_eq_getElem _⟩
      obtain ⟨k, v⟩ := kv
      obtain ⟨hkey, hval⟩ := hpo.get? (e := eso[x]) (by simp [hlt]) hkv
      obtain ⟨k', hkey', hhash⟩ := hko eso[x] (Array.getElem_mem hlt)
      obtain rfl : k' = k := knd.inj _ _ _ hkey' hkey
      dsimp only
      rw [if_neg Bool.false_ne_true, hhash, hval]
      have hmx : (merged kvs (more.take x)).length ≤ sizeLine := by
        have e1 := merged_length_le kvs (more.take x)
        have e2 : (more.take x).length ≤ more.length := by rw [List.length_take]; omega
        omega
      refine wpAny_bind (wpAny_holding (wpAny_dictPut_pairs (hsz := hmx) hkey hd' fun h'' hd'' hs'' => ?_))
      have hoo'' : h''.get? o = some oo := (hs''.2 o (Ne.symm hdo)).trans hoo'
      refine wpAny_bind (wpAny_dictEpoch hoo'' hdo' ?_)
      rw [if_neg (by simp)]
      exact wpAny_pure ⟨h'', x + 1, rfl, hrest, hlt, by rw [merged_take_succ kvs more x (k', v) hkv]; exact hd'', hoo'', hs'.trans hs''⟩
    · rintro b s' ⟨h', i, rfl, hr, hi, hd', hoo', hs'⟩
      have hin : i = eso.size := by
        rcases Nat.lt_or_ge i eso.size with h | h
        · have e : eso.size - i = (eso.size - (i + 1)) + 1 := by omega
          rw [e, List.range'_succ] at hr; exact nomatch hr
        · exact Nat.le_antisymm hi h
      refine hQ' h' ?_ ⟨oo, eso, epo, hoo', hco, hdo', hko, hpo, hno⟩ hs'
      rw [hin, ← hlen, List.take_length] at hd'; exact hd'
  split
  · refine wpAny_bind (wpAny_dictEntries hoo hdo' ?_)
    refine wpAny_bind ?_
    refine wpAny_forIn_array' _ (fun rest _ s' => s' = s ∧ ∀ e ∈ rest, ∃ k, knd.is k e.key = true) _ ?_ ?_ _ _ ⟨rfl, fun e he => ?_⟩
    · rintro x rest b s' ⟨rfl, hr⟩
      obtain ⟨k, hk'⟩ := hr x (by simp)
      have hnr : ∀ a, x.key ≠ .ref a := fun a ea => by rw [ea, hnoref] at hk'; cases hk'
      split
      · rename_i a ea; exact absurd ea (hnr a)
      · exact wpAny_pure ⟨rfl, fun e he => hr e (List.mem_cons_of_mem _ he)⟩
    · rintro b s' ⟨rfl, _⟩
      refine wpAny_bind (wpAny_dictEntries hoo hdo' ?_)
      refine wpAny_bind (wpAny_dictEpoch hoo hdo' ?_)
      refine wpAny_bind (main _ fun h' a b c => wpAny_pure (hQ h' a b c))
    · obtain ⟨k', hkey', _⟩ := hko e (by simpa using he)
      exact ⟨k', hkey'⟩
  · refine wpAny_bind (wpAny_dictEntries hoo hdo' ?_)
    refine wpAny_bind (wpAny_dictEpoch hoo hdo' ?_)
    refine wpAny_bind (main _ fun h' a b c => wpAny_pure (hQ h' a b c))
end
end PySem
namespace PySem
section
variable {prog : Program} {w : World} {K : Type} [DecidableEq K] {knd : KeyKind prog w K} {A : Around} {E : Value → Shared → Prop} {s : Shared}
theorem wpAny_dictDisplay_star {m k v : Sem Value} {Q : Value → Shared → Prop}
    (h : wpAny (model prog w) A (alloc { cls := .type "dict", data := .dict #[] }) (fun d s1 => wpAny (model prog w) A m (fun mv s2 => wpAny (model prog w) A (mergeMapping d mv false) (fun _ s3 =>
       wpAny (model prog w) A (subDict [(k, v)]) (fun sub s4 => wpAny (model prog w) A (mergeMapping d (.ref sub) false) (fun _ s5 => Q (.ref d) s5) (fun _ _ => False) s4) E s3) (fun _ _ => False) s2) E s1) E s) :
    wpAny (model prog w) A (dictDisplay [(none, m), (some k, v)]) Q E s := by
  unfold dictDisplay
  dsimp only
  simp only [List.forIn_cons, List.forIn_nil, List.isEmpty_nil, if_true, pure_bind, bind_assoc]
  refine wpAny_bind (wpAny_mono h (fun d s1 h1 => ?_) fun _ _ e => e)
  refine wpAny_bind (wpAny_holding (wpAny_mono h1 (fun mv s2 h2 => ?_) fun _ _ e => e))
  refine wpAny_bind (wpAny_onRaise (wpAny_tryCatch (wpAny_onRaise (wpAny_holding (wpAny_mono h2 (fun _ s3 h3 => ?_) fun _ _ e => e.elim)))))
  have e17 : (([] ++ [(k, v)] : List (Sem Value × Sem Value)).length == 17) = false := rfl
  rw [e17, if_neg Bool.false_ne_true, pure_bind]
  dsimp only
  rw [pure_bind]
  have ee : (([] ++ [(k, v)] : List (Sem Value × Sem Value)).isEmpty) = false := rfl
  rw [ee, if_neg Bool.false_ne_true]
  simp only [bind_assoc, pure_bind, List.nil_append]
  refine wpAny_bind (wpAny_holding (wpAny_mono h3 (fun sub s4 h4 => ?_) fun _ _ e => e))
  refine wpAny_bind (wpAny_onRaise (wpAny_holding (wpAny_mono h4 (fun _ s5 h5 => ?_) fun _ _ e => e.elim)))
  exact wpAny_pure h5
end
end PySem
namespace L2
open PySem PySem.Spec PyProof.Rows
theorem key_noref (P : Program) (w : World) (k : Key) (a : Addr) : (mixKind P w).is k (.ref a) = false := by
  cases k <;> rfl
theorem stored_kv {kvs : List (Key × V)} {vs : List (Key × Value)} (r : KV kvs vs) (k : Key) {x : V} {u : Value} (ru : RelV x u) : KV (putK kvs k x) (stored vs k u) := r.put k ru
section
variable {X : Cx}
/-- {**m, k: v} -/
def tDStar (tm tk tv : TE) : TE := fun σ H Q => ∀ p, H p = none → tm σ (upd H p (.dK [])) fun x H1 => ∃ a kvs, x = .ref a ∧ H1 p = some (.dK []) ∧ a ≠ p ∧ H1 a = some (.dK kvs) ∧ kvs.length ≤ 100000 ∧
  ∀ q, upd H1 p (.dK kvs) q = none → tk σ (upd (upd H1 p (.dK kvs)) q (.dK [])) fun y H2 => tv σ H2 fun z H3 => H3 q = some (.dK []) ∧ H3 p = some (.dK kvs) ∧ ∃ key, y = kV key ∧
    Q (.ref p) (upd (upd H3 q (.dK [(key, z)])) p (.dK (putK kvs key z)))
theorem pe_dstar {m k v : Expr} {tm tk tv : TE} {pos : Pos} (hm : PE X m tm) (hk : PE X k tk) (hv : PE X v tv) : PE X (.Dict [none, some k] [m, v] pos) (tDStar tm tk tv) := by
  refine ⟨fun pins s σ H Q I q => ?_⟩
  rw [arm_eval_Dict]
  refine wpAny_bind (wpAny_standAt ?_)
  show wpAny _ _ (dictDisplay [(none, (do let x ← eval m X.env; standAt pos; pure x)), (some (eval k X.env), (do let x ← eval v X.env; standAt pos; pure x))]) _ _ _
  have hn := I.hok.fresh (Nat.le_refl s.heap.objs.size)
  have I1 := I.laid (a := s.heap.objs.size) (o := .dK []) (h' := s.heap.push { cls := .type "dict", data := .dict #[] }) (t' := s.toks) (fun _ _ q => Heap.get?_push_of_some _ q) (Nat.le_refl _) (dk_empty s.heap I.big)
  refine wpAny_dictDisplay_star (wpAny_alloc ?_)
  refine wpAny_bind (thn (hm.run pins _ σ _ _ I1 (q _ hn)) fun u s1 ⟨x, H1, I2, rx, a, kvs, ex, hp, hap, ha, hl, q1⟩ => ?_)
  subst ex
  obtain rfl : u = Value.ref a := rx
  refine wpAny_bind (wpAny_standAt (wpAny_pure ?_))
  -- the first merge
  generalize s.heap.objs.size = p at *
  obtain ⟨z1, hs1, vs1, r1, dd1⟩ := dk_of I2.hok hp
  cases r1
  obtain ⟨za, hsa, vsa, ra, dda⟩ := dk_of I2.hok ha
  have hnd : (vsa.map (·.1)).Nodup := by obtain ⟨_, _, _, _, _, _, _, _, h⟩ := dda; exact h
  have hlen : vsa.length ≤ 100000 := by rw [← ra.length]; exact hl
  refine wpAny_mergeMapping (knd := mixKind X.prog X.w) (key_noref X.prog X.w) (Ne.symm hap) hsa dd1 dda (fun h2 d1 d2 sb => ?_) (by rw [List.length_nil, sizeLine_eq]; omega)
  rw [merged_nil_of_nodup _ hnd] at d1
  have I3 : Inv X pins σ (upd H1 p (.dK kvs)) { s1 with heap := h2 } := d_write (t' := s1.toks) I2 (by rw [hp]; exact True.intro) sb (let ⟨o, _, _, e, _⟩ := d1; ⟨o, e⟩) (dk_new za hs1 ra d1)
  -- the second dict
  have hn2 := I3.hok.fresh (Nat.le_refl h2.objs.size)
  refine wpAny_subDict (knd := mixKind X.prog X.w) (by show 1 ≤ 15; omega) ?_
  have I4 := I3.laid (a := h2.objs.size) (o := .dK []) (h' := h2.push { cls := .type "dict", data := .dict #[] }) (t' := s1.toks) (fun _ _ q => Heap.get?_push_of_some _ q) (Nat.le_refl _) (dk_empty h2 I3.big)
  have q2 := q1 _ hn2
  refine evalPairs_cons (thn (hk.run pins _ σ _ _ I4 q2) fun u s5 ⟨y, H2, I5, ry, q3⟩ => ?_)
  refine wpAny_bind (thn (hv.run pins _ σ _ _ I5 q3) fun u' s6 ⟨z, H3, I6, rz, hq3, hp3, key, ey, q4⟩ => ?_)
  subst ey
  refine wpAny_bind (wpAny_standAt (wpAny_pure (evalPairs_nil ?_)))
  generalize h2.objs.size = q at *
  obtain ⟨_, hsq, vsq, rq, ddq⟩ := dk_of I6.hok hq3
  cases rq
  refine ⟨[(key, u')], ⟨kV_is ry, rfl, trivial⟩, ddq, fun h7 d7 sb7 => ?_⟩
  have e7 : merged ([] : List (Key × Value)) [(key, u')] = [(key, u')] := merged_nil_of_nodup _ (by simp)
  rw [e7] at d7
  have kv7 : KV [(key, z)] [(key, u')] := .cons ⟨rfl, rz⟩ .nil
  have I7 : Inv X pins σ (upd H3 q (.dK [(key, z)])) { s6 with heap := h7, toks := s6.toks + 1 } := d_write (t' := s6.toks + 1) I6 (by rw [hq3]; exact True.intro) sb7 (let ⟨o, _, _, e, _⟩ := d7; ⟨o, e⟩) (dk_new (by show 1 ≤ sizeLine; rw [sizeLine_eq]; omega) hsq kv7 d7)
  have hpq : p ≠ q := by
    intro e; rw [e, hq3] at hp3; 
    have : kvs = [] := by injection hp3 with h; injection h with h; exact h.symm
    subst this
    rw [e] at hn2
    simp [upd_same] at hn2
  have hp7 : (upd H3 q (.dK [(key, z)])) p = some (.dK kvs) := by rw [upd_ne hpq]; exact hp3
  obtain ⟨zp, hsp, vsp, rp, ddp⟩ := dk_of I7.hok hp7
  obtain ⟨_, _, vsq', rq', ddq'⟩ := dk_of I7.hok (show (upd H3 q (.dK [(key, z)])) q = some (.dK [(key, z)]) from upd_same)
  have hlp : vsp.length ≤ 100000 := by rw [← rp.length]; exact hl
  have hlq : vsq'.length = 1 := by rw [← rq'.length]; rfl
  refine wpAny_mergeMapping (knd := mixKind X.prog X.w) (key_noref X.prog X.w) hpq hsq ddp ddq' (fun h8 d8 d9 sb8 => ?_) (by rw [sizeLine_eq]; omega)
  have kv8 : KV (putK kvs key z) (merged vsp vsq') := KV.merge rq' rp
  refine ⟨.ref p, _, d_write (ob := .dK (putK kvs key z)) (t' := s6.toks + 1) I7 (by rw [hp7]; exact True.intro) sb8 (let ⟨o, _, _, e, _⟩ := d8; ⟨o, e⟩) (dk_new ?_ hsp kv8 d8), rfl, q4⟩
  have := length_putK kvs key z
  rw [sizeLine_eq]; omega
end
end L2
namespace L2
open PySem PySem.Spec PyProof.Rows
section
variable {X : Cx}
/-- o.f = .. as a target within a tuple -/
def gAttr (K : PySem.W.Frag) (to : TE) (f : Str) : TG := fun v σ H Q => to σ H fun x H1 => ∃ a C dx fs, x = .ref a ∧ H1 a = some (.ins C dx fs) ∧ Cls K C ∧ NoAttr K C f ∧ fs.length < 1000 ∧ Q σ (upd H1 a (.ins C dx (putF f v fs)))
theorem pg_attr {o : Expr} {to : TE} {f : Str} {pos : Pos} (ho : PE X o to) : PG X (.Attribute o f pos) (gAttr X.K to f) := by
  refine ⟨fun pins s σ H v u Q I r h => ?_⟩
  rw [assign_Attribute]
  refine wpAny_bind (wpAny_holding (thn (ho.run pins s σ H _ I h) fun ov s1 ⟨x, H1, I1, rx, a, C, dx, fs, ex, ea, c, n, l, q⟩ => ?_))
  subst ex
  obtain rfl : ov = Value.ref a := rx
  refine wpAny_bind (wpAny_standAt (wpAny_bind (wpAny_holding (setattr_ok I1 ea c n l r fun s2 I2 => ?_))))
  exact wpAny_release ⟨σ, _, I2, q⟩
/-! ### any of ints -/
def rAnyI (K : PySem.W.Frag) : List V → Hp → VK → Prop := fun vs H Q => ∃ (a : Addr) (ns : List Int), vs = [V.ref a] ∧ SqL K H a (ns.map V.int) ∧ Q (.bl (ns.any (· != 0))) H
theorem truth_ints {prog : Program} {w : World} {A : Around} {ns : List Int} {its : List Value} (e : IntsAre its ns) :
    TruthOf prog w A (fun i v => its.toArray[i]? = some v) (fun i => (ns.map (· != 0)).getD i false) := fun i v s Q E hv hq => by
  have hv' : its[i]? = some v := by simpa using hv
  have hq' : Q ((ns.map (· != 0)).getD i false) s := hq
  obtain ⟨n, t, rfl, hg⟩ : ∃ n t, v = Value.int n t ∧ (ns.map (· != 0)).getD i false = (n != 0) := by
    clear hq hq' hv
    induction e generalizing i with
    | nil => simp at hv'
    | @cons n t vs ns _ ih =>
      cases i with
      | zero => simp at hv'; exact ⟨n, t, hv'.symm, rfl⟩
      | succ i =>
        obtain ⟨n', t', e1, e2⟩ := ih i (by simpa using hv')
        exact ⟨n', t', e1, by simpa using e2⟩
  rw [hg] at hq'
  exact truthy_int hq'
theorem cr_anyI (hc : X.calm = true) : CallR X (.builtin "any") (rAnyI X.K) := by
  intro pins s σ H vs us Q I r h
  obtain ⟨a, ns, rfl, hs, q⟩ := h
  obtain ⟨its, rv, hl, _⟩ := I.list hs
  rw [Vals.ref1 r]
  have hb := rv.ints
  refine call_any_walk (iter_any hl.isList fun s₂ e2 st hne => ?_)
  subst e2
  refine ⟨_, _, _, _, _, _, _, rfl, Walks.list (A := X.A.in1) (I.ok.hd hc) _ a hne its.toArray, st, truth_ints hb, fun h' tk hk => ?_⟩
  refine ⟨.bl _, H, I.kept fun b o eo => hk b o (fun hmem => ?_) (Heap.get?_push_of_some _ eo), ?_, q⟩
  · rcases List.mem_cons.mp hmem with e1 | hmem
    · exact absurd (e1 ▸ Heap.lt_size eo) (Nat.lt_irrefl _)
    · cases hmem
  · show Value.bool _ = Value.bool _
    have e1 : (ns.map (· != 0)).length = its.toArray.size := by rw [List.length_map, List.size_toArray, hb.length]
    have e2 : (ns.map (· != 0)).any id = ns.any (· != 0) := by rw [List.any_map]; rfl
    rw [← e2, ← any_range, e1]
/-! ### reversed(range(0, m, 4)) -/
def iRev4 (ta : TA) : TI := fun σ H R => ta σ H fun vs H1 => ∃ (m : Nat), vs = [.int 0, .int (m : Int), .int 4] ∧ m < 2 ^ 60 ∧ R (Itc (4 * ((((m + 3) / 4 : Nat) : Int) - 1)) (-4) ((m + 3) / 4)) H1
theorem rsize4 (m : Nat) : Builtin.Range.rangeSize 0 (m : Int) 4 = (((m + 3) / 4 : Nat) : Int) := by
  unfold Builtin.Range.rangeSize
  rw [if_pos (by decide)]
  split <;> omega
theorem pi_rev4 {tg a b c : Expr} {ta : TA} {p p2 pos pos2 : Pos} (hg : Gl X "reversed") (hm : X.mg "reversed" = none) (hgr : Gl X "range") (hmr : X.mg "range" = none) (ha : PA X [a, b, c] ta)
    (hs : starEach [.Call (.Name "range" p2) [a, b, c] [] pos2] X.env = (false, eval (.Call (.Name "range" p2) [a, b, c] [] pos2) X.env) :: starEach [] X.env := by rfl)
    (hs3 : starEach [a, b, c] X.env = (false, eval a X.env) :: starEach [b, c] X.env := by rfl) (hpl : (backTo pos2 (starEach [b, c] X.env)).any (·.1) = false := by rfl) :
    PI X tg (.Call (.Name "reversed" p) [.Call (.Name "range" p2) [a, b, c] [] pos2] [] pos) (iRev4 ta) := by
  refine ⟨fun pins s σ H R I h => ?_⟩
  refine Call_ (ld_blt I hg hm PyProof.Rows.boot_reversed (PyProof.Rows.callWith_type1 (args_cons ?_ hs) hs rfl))
  refine Call_ (ld_blt I hgr hmr boot_range (PyProof.Rows.callWith_type1 (thn (ha.run pos2 pins s σ H _ I h) fun us s1 ⟨vs, H1, I1, r1, q1⟩ => ?_) hs3 hpl))
  obtain ⟨m, e, hm60, q⟩ := q1
  subst e
  cases r1 with
  | cons r rr =>
    cases rr with
    | cons r' rr =>
      cases rr with
      | cons r'' rr =>
        cases rr
        obtain ⟨t, rfl⟩ := r
        obtain ⟨t', rfl⟩ := r'
        obtain ⟨t'', rfl⟩ := r''
        refine call_range_3 (by decide) ?_ (.inl (PyProof.noPylong_small (by decide)))
        refine args_nil ?_
        have hn := rsize4 m
        have I2 : Inv X pins σ H1 { s1 with heap := s1.heap.push { cls := .type "range", data := .fields #[.int 0 t, .int (m : Int) t', .int 4 t''] } } := I1.kept (t' := s1.toks) fun b o e => Heap.get?_push_of_some _ e
        have hsm : Builtin.Range.handS_smallRev 0 (m : Int) 4 = true := by
          unfold Builtin.Range.handS_smallRev Builtin.Range.rangeFitsLong
          rw [hn]
          simp only [Bool.and_eq_true, decide_eq_true_eq]
          omega
        refine call_reversed_range (IsRange.new ..) hsm (wpAny_pyIter_rangeiter (Heap.get?_push_size _ rfl) ?_)
        refine pi_one (tk := s1.toks) I2 _ (turn_rangeC _ (4 * ((((m + 3) / 4 : Nat) : Int) - 1)) (-4) ((m + 3) / 4)) ?_ q
        show IsRangeIter _ _ (4 * ((((m + 3) / 4 : Nat) : Int) - 1) + ((0 : Nat) : Int) * (-4)) ((((m + 3) / 4 : Nat) : Int) - ((0 : Nat) : Int)) (-4)
        have e1 : 4 * ((((m + 3) / 4 : Nat) : Int) - 1) + ((0 : Nat) : Int) * (-4) = 0 + (Builtin.Range.rangeSize 0 (m : Int) 4 - 1) * 4 := by rw [hn]; omega
        have e2 : (((m + 3) / 4 : Nat) : Int) - ((0 : Nat) : Int) = Builtin.Range.rangeSize 0 (m : Int) 4 := by rw [hn]; omega
        rw [e1, e2]
        exact Heap.get?_push_size _ rfl
end
end L2
end S_C1
section S_Z00
set_option maxRecDepth 100000
set_option maxHeartbeats 4000000
namespace L2.EH
open PySem PySem.Spec PyProof.Rows StX
/-! ### rules with the written part by its own name: for elements of comprehensions -/
section
variable {X : Cx} {K : PySem.W.Frag} {tg : Expr}
def rLenK (K : PySem.W.Frag) : List V → Hp → VK → Prop := fun xs H Q => ∃ x n, xs = [x] ∧ LenV K x H n ∧ Q (V.int (n : Nat)) H
theorem call_lenK (e : X.K = K) : CallR X (.builtin "len") (rLenK K) := by subst e; exact call_len
theorem cr_sumK (e : X.K = K) (hc : X.calm = true) : CallR X (.builtin "sum") (rSum K) := by subst e; exact cr_sum hc
theorem cr_allK (e : X.K = K) (hc : X.calm = true) : CallR X (.builtin "all") (rAll K) := by subst e; exact cr_all hc
def rTupOf (K : PySem.W.Frag) : List V → Hp → VK → Prop := fun xs H Q => ∃ p ys, xs = [.ref p] ∧ ((SqL K H p ys ∧ ∀ l, H l = none → Q (.ref l) (upd H l (.tup ys))) ∨ (SqT K H p ys ∧ Q (.ref p) H))
theorem call_tupleK (e : X.K = K) : CallR X (.type "tuple") (rTupOf K) := by subst e; exact call_tuple_of
theorem ix_listK (e : X.K = K) : IxR X (rIxL K) := by subst e; exact ix_list
theorem ix_tupK (e : X.K = K) : IxR X (rIxT K) := by subst e; exact ix_tup
theorem pi_tupK (e : X.K = K) {l : Expr} {tl : TE} (hl : PE X l tl) : PI X tg l (iTup K tl) := by subst e; exact pi_tup hl
theorem pi_listK (e : X.K = K) {l : Expr} {tl : TE} (hl : PE X l tl) : PI X tg l (iList K tl) := by subst e; exact pi_list hl
theorem pe_fldK (h : X.K = K) {e : Expr} {ta : TE} {f : Str} {pos : Pos} (ha : PE X e ta) (hb : attributeBase e f X.env (eval e X.env) = eval e X.env) : PE X (.Attribute e f pos) (tFld K ta f) := by subst h; exact pe_fld ha hb
end
def lcScope : Expr → Scope
  | .ListComp _ _ s _ => s
  | .DictComp _ _ _ s _ => s
  | _ => { kind := .function, names := [], isGenerator := false, isCoroutine := false }
def retE : Stmt → Expr
  | .Return (some e) _ => e
  | _ => .Constant .none 0 ⟨0, 0, 0, 0⟩
def argE : Expr → Nat → Expr
  | .Call _ es _ _, i => es.getD i (.Constant .none 0 ⟨0, 0, 0, 0⟩)
  | e, _ => e
def asgE : Stmt → Expr
  | .Assign _ e _ => e
  | _ => .Constant .none 0 ⟨0, 0, 0, 0⟩
def bodyAt (s : Stmt) (i : Nat) : Stmt := (defBody s).getD i (.Pass ⟨0, 0, 0, 0⟩)
def scIn (sc1 sc0 : Scope) : Scope := relabel sc1 (envOfC "" sc0 0 0 .none)
end L2.EH
end S_Z00
section S_L1
set_option maxRecDepth 100000
set_option maxHeartbeats 4000000
namespace L2.EH
open PySem PySem.Spec PyProof.Rows
open L2.Halves (has keys Clean sumOf stepped Small WLines WOk vat)
/-! ### a walk with any body -/
theorem lc_out {J : It} {n : Nat} {G : Hp → Prop} {Y : Nat → Hp → V → Hp → Prop} (w : Walk J n G Y) {body : V → Hp → (Hp → Prop) → Prop} {H0 : Hp} {Qd : Hp → Prop} (Pv : Nat → Hp → Prop) (h0 : Pv 0 H0) (hG : ∀ i H, i ≤ n → Pv i H → G H)
    (hs : ∀ i x H H', i < n → Pv i H → Y i H x H' → body x H' (Pv (i + 1))) (hd : ∀ H, Pv n H → Qd H) :
    ∃ W : Nat → Nat → Hp → Prop, (∃ m, W 0 m H0) ∧ ∀ i m H, W i m H →
      (J.stop i H ∧ Qd H) ∨ (J.go i H ∧ ∃ Nx : Hp → Prop, (∀ H', Nx H' → ∃ m', m' < m ∧ W (i + 1) m' H') ∧ ∀ x H', J.yld i H x H' → body x H' Nx) := by
  refine ⟨fun i m H => m = n - i ∧ i ≤ n ∧ Pv i H, ⟨n, by simp, Nat.zero_le _, h0⟩, ?_⟩
  rintro i m H ⟨rfl, hi, p⟩
  have q := hG i H hi p
  by_cases hlt : i < n
  · exact .inr ⟨w.goes i H hlt q, Pv (i + 1), fun H' p' => ⟨n - (i + 1), by omega, rfl, hlt, p'⟩, fun x H' y => hs i x H H' hlt p (w.yields i H x H' hlt q y)⟩
  · have e : i = n := by omega
    subst e
    exact .inl ⟨w.stops H q, hd H p⟩
/-- a list of rows -/
def RowsAt (K : PySem.W.Frag) (H : Hp) (a : Addr) (M : List Halves.Row) : Prop := ∃ xs : List Addr, SqL K H a (xs.map V.ref) ∧ xs.length = M.length ∧ ∀ i (h : i < xs.length) (h' : i < M.length), H xs[i] = some (.dK (rowK M[i]))
theorem RowsAt.same {K : PySem.W.Frag} {H H' : Hp} {a : Addr} {M : List Halves.Row} (h : RowsAt K H a M) (s : Same H H') : RowsAt K H' a M := by
  obtain ⟨xs, h1, h2, h3⟩ := h
  exact ⟨xs, s.seq h1, h2, fun i p q => s _ _ (h3 i p q)⟩
/-- what sum_of asks of a row -/
structure RowIn (n w : Nat) (r : Halves.Row) : Prop where
  nd : (keys r).Nodup
  lt : ∀ i, i ∈ keys r → i < w
  len : r.length ≤ 900
  sm : Small n r
def spStepped (K : PySem.W.Frag) : Sp := fun vs H Q _ => ∃ (a b : Addr) (M : List Halves.Row) (ns : List Int) (n m : Nat), vs = [.ref a, .ref b] ∧ RowsAt K H a M ∧ SqL K H b (ns.map V.int) ∧ M.length ≤ 900 ∧ (∀ r, r ∈ M → RowIn n ns.length r) ∧
  (∀ z, z ∈ ns → z.natAbs < 2 ^ m) ∧ 0 < n ∧ 0 < m ∧ n + m ≤ 1000000 ∧ ∀ H' p, Same H H' → H p = none → H' p = some (.lst ((stepped M ns).map V.int)) → Q (.ref p) H'
abbrev nmStepped : List Str := ["mixes", "values", "factors", "at"]
theorem scStepped : FnScope ["mixes", "values", "factors", "at"] ["mixes", "values"] (defScope sStepped) := ⟨rfl, rfl, rfl, by decide +kernel, rfl, by decide +kernel, by decide +kernel⟩
section
variable {P : Program} {w : World} {K : PySem.W.Frag} {mg : Str → Option Value} {base : Heap}
/-- a def that is called: its promise, its binding, its name -/
structure Fn' (P : Program) (w : World) (K : PySem.W.Frag) (mg : Str → Option Value) (base : Heap) (k : Nat) (x : Str) (f : Addr) (fd : FuncData) (ps : List Str) (sp : Sp) : Prop where
  ok : FnOk P w K mg base CX0 k f fd ps sp
  b : Binds K fd ps []
  m : mg x = some (.ref f)
  k : PySem.W.keepIn K (.ref f) = true
theorem ok_stepped {f : Addr} {fd : FuncData} (F : Fun K "stepped_values" "stepped_values" sStepped f fd) (B : Nm6 mg) :
    FnOk P w K mg base CX0 2 f fd ["mixes", "values"] (spStepped K) := by
  refine F.ok scStepped (fun vs H Q E h => ?_) (fun cdv A outer s H vs Q E hr h => ?_)
  · obtain ⟨a, b, M, ns, n, m, rfl, _⟩ := h
    rfl
  · obtain ⟨a, b, M, ns, n, m, rfl, ⟨xs, hx, hxl, hxr⟩, hb, hM, hrow, hz, n0, m0, hnm, k⟩ := h
    have hu := hu_of hr
    have nd := scStepped.nd
    have e6 := hz
    refine ⟨_, pss_one (ps_ret (pe_lc (own := [("factors", 2)]) (g := gName 2) (tt := tYes) (te := tCB (rSum K) (tCons (tLockE (tLc (iKeys (tVar 2)) (gName 3) tYes (tOp (rI CMulW fun i j => .int (i * j)) (tDGet (tVar 2) (tVar 3)) (tOp (rIxL K) (tVar 1) (tVar 3))) [3])) tNil)) rfl nd (pi_list (pv 0)) (blkOk_by (N := nmStepped) (sc := defScope sStepped) (by decide +kernel))
      (fun _ _ _ _ _ => pg_name (i := 2) nd rfl (Or.inr rfl) (Or.inl rfl)) (fun _ _ _ _ _ => pts_nil)
      (fun _ _ _ _ _ => pe_callB (cr_sumK (K := K) rfl rfl) (by rfl) B.sum (by decide +kernel) (pa_cons (pe_lock (pe_lc (own := [("at", 3)]) (g := gName 3) (tt := tYes) rfl nd (pi_keys (pv 2)) (blkOk_by (own := [("at", 3)]) (N := nmStepped) (sc := (scIn (lcScope (retE (bodyAt sStepped 0))) (defScope sStepped))) (by decide +kernel))
        (fun _ _ _ _ _ => pg_name (i := 3) nd rfl (Or.inl rfl) (Or.inr rfl)) (fun _ _ _ _ _ => pts_nil)
        (fun _ _ _ _ _ => pe_op op_mulW (pe_dget (by exact hu) (pv 2) (pv 3) (fun _ _ => rfl)) (pe_ix (ix_listK (K := K) rfl) (pv 1) (pv 3) (fun _ _ => rfl))))) pa_nil)))), ?_⟩
    refine ⟨_, rfl, a, rfl, ⟨_, hx⟩, fun D nD => ?_⟩
    refine lc_list (K := K) (a := a) (xs := xs.map V.ref) (fun i Hc => Same H Hc ∧ Hc D = some (.lst ((stepped (M.take i) ns).map V.int))) ⟨?_, by rw [upd_same]; rfl⟩ ?_ ?_ ?_
    · intro y o hy
      rw [upd_ne (by intro e; rw [e, nD] at hy; cases hy)]; exact hy
    · rintro i Hc _ ⟨hs, _⟩
      exact hs.seq hx
    · rintro i x Hc hxi ⟨hs, hD⟩
      rw [List.getElem?_map] at hxi
      cases hi : xs[i]? with
      | none => rw [hi] at hxi; cases hxi
      | some d =>
        rw [hi] at hxi
        cases hxi
        obtain ⟨hlt, rfl⟩ := List.getElem?_eq_some_iff.1 hi
        have hlt' : i < M.length := by omega
        have hrw := hrow _ (List.getElem_mem hlt')
        have hd := hs _ _ (hxr i hlt hlt')
        have hb' : SqL K Hc b (ns.map V.int) := hs.seq hb
        have hle : (stepped (M.take i) ns).length = i := by simp [stepped]; omega
        have e9 : stepped (M.take (i + 1)) ns = stepped (M.take i) ns ++ [sumOf M[i] ns] := by
          rw [List.take_succ_eq_append_getElem hlt']
          unfold stepped
          rw [List.map_append]; rfl
        generalize xs[i] = d at hd
        rw [e9]
        generalize M[i] = r at hrw hd
        have hDd : D ≠ d := by intro e; rw [e, hd] at hD; cases hD
        refine ⟨rfl, ?_⟩
        refine ⟨d, _, hd, trivial, fun od => ⟨_, rfl, d, od, rfl, .inl ⟨_, upd_same, fun D2 nD2 => ?_⟩⟩⟩
        have hD2d : D2 ≠ d := by intro e; rw [e, upd_same] at nD2; cases nD2
        have nD2' : Hc D2 = none := by rw [upd_ne hD2d] at nD2; exact nD2
        have hD2D : D2 ≠ D := by intro e; rw [e, hD] at nD2'; cases nD2'
        refine lc_out (walk_keys (kvs := rowK r)) (fun j Hk => Hk d = some (.frz od (.dK (rowK r))) ∧ (∀ y o', y ≠ d → Hc y = some o' → Hk y = some o') ∧ Hk D2 = some (.lst ((prods (r.take j) ns).map V.int))) ⟨by rw [upd_ne (Ne.symm hD2d), upd_same], fun y o' hy ho => by rw [upd_ne (by intro e; rw [e, nD2'] at ho; cases ho), upd_ne hy]; exact ho, by rw [upd_same]; rfl⟩ (fun j Hk _ h => h.1) ?_ ?_
        · rintro j x Ho H' hj ⟨hA, hk2, hL⟩ ⟨rfl, kk, v, hkv, rfl⟩
          obtain ⟨p, hp, rfl, rfl⟩ := rowK_get r j kk v hkv
          have hpm : p ∈ r := List.mem_of_getElem? hp
          have hpk : p.1 ∈ keys r := List.mem_map.2 ⟨p, hpm, rfl⟩
          have hv : valV (rowK r) (Sum.inl (p.1 : Int)) = some (V.int p.2) := by
            rw [valV_rowK, if_pos ((Halves.has_iff r p.1).2 hpk), Halves.get_of_mem r p hrw.nd hpm]
          have dg : DGet H' d (kV (Sum.inl (p.1 : Int))) (some (V.int p.2)) := .inl ⟨_, Sum.inl (p.1 : Int), .inr ⟨od, hA⟩, rfl, hv.symm⟩
          have hlt2 : p.1 < ns.length := hrw.lt p.1 hpk
          have hb2 : SqL K H' b (ns.map V.int) := by
            rcases hb' with (h | ⟨o', h⟩) | h
            · exact .inl (.inl (hk2 b _ (by intro e; rw [e, hd] at h; cases h) h))
            · exact .inl (.inr ⟨o', hk2 b _ (by intro e; rw [e, hd] at h; cases h) h⟩)
            · exact .inr h
          refine ⟨rfl, ?_⟩
          refine ⟨_, rfl, _, rfl, d, _, rfl, dg, _, rfl, _, rfl, b, _, _, _, rfl, rfl, hb2, atI_nat (by rw [List.getElem?_map, List.getElem?_eq_getElem hlt2]; rfl), _, _, rfl, rfl, wide_mul (hrw.sm p hpm) (hz _ (List.getElem_mem hlt2)) n0 m0 hnm, _, hL, ?_, ?_⟩
          · have h1 := hrw.len
            have : (r.take j).length ≤ r.length := by simp; omega
            refine small1000 ?_
            simp [prods]; omega
          · refine ⟨by rw [upd_ne (Ne.symm hD2d)]; exact hA, fun y o' hy' ho => by rw [upd_ne (by intro e; rw [e, nD2'] at ho; cases ho)]; exact hk2 y o' hy' ho, ?_⟩
            rw [upd_same, take_snoc r j p hp]
            simp [prods, List.getD, List.getElem?_eq_getElem hlt2]
        · rintro Hk ⟨hA, hk2, hL⟩
          have e : r.take (rowK r).length = r := by rw [rowK_length]; exact List.take_length
          rw [e] at hL
          have s2 : Same Hc (upd Hk d (.dK (rowK r))) := fun y o' ho => by
            by_cases ey : y = d
            · subst ey; rw [upd_same, ← hd]; exact ho
            · rw [upd_ne ey]; exact hk2 y o' ey ho
          refine ⟨hA, D2, prods r ns, rfl, SqL.of (by rw [upd_ne hD2d]; exact hL), ?_⟩
          generalize (upd Hk d (.dK (rowK r))) = Hz at s2
          refine ⟨_, s2 _ _ hD, small1000 (by simp; omega), fun y o hy => ?_, ?_⟩
          · rw [upd_ne (by intro e; rw [e, nD] at hy; cases hy)]; exact s2 _ _ (hs _ _ hy)
          · rw [upd_same, List.map_append]; rfl
    · rintro Hc ⟨hs, hD⟩
      rw [List.length_map, hxl, List.take_length] at hD
      exact k Hc D hs nD hD
/-! ### Lines -/
theorem same_tup {K : PySem.W.Frag} {H H' : Hp} {a : Addr} {xs : List V} (e : Same H H') (h : SqT K H a xs) : SqT K H' a xs := by
  rcases h with (h | ⟨o, h⟩) | h
  · exact .inl (.inl (e _ _ h))
  · exact .inl (.inr ⟨o, e _ _ h⟩)
  · exact .inr h
def lineF (t s : Addr) : List (Str × V) := putF "starts" (.ref s) (putF "halves" (.ref t) [])
theorem lineF_h (t s : Addr) : (lineF t s).lookup ("halves" : Str) = some (V.ref t) := by
  unfold lineF
  rw [lookup_putF, if_neg (by decide +kernel), lookup_putF, if_pos rfl]
theorem lineF_s (t s : Addr) : (lineF t s).lookup ("starts" : Str) = some (V.ref s) := by
  unfold lineF
  rw [lookup_putF, if_pos rfl]
theorem lineF_len (t s : Addr) : (lineF t s).length < 1000 := by
  have h1 := length_putF "halves" (V.ref t) []
  have h2 := length_putF "starts" (V.ref s) (putF "halves" (V.ref t) [])
  unfold lineF
  simp only [List.length_nil] at h1
  omega
/-- Lines at a -/
structure LinesAt (K : PySem.W.Frag) (C : Addr) (H : Hp) (a : Addr) (L : WLines) : Prop where
  ex : ∃ dx t e o s, H a = some (.ins C dx (lineF t s)) ∧ SqT K H t [.ref e, .ref o] ∧ RowsAt K H e L.evens ∧ RowsAt K H o L.odds ∧ SqL K H s (L.starts.map V.int)
theorem LinesAt.same {C : Addr} {H H' : Hp} {a : Addr} {L : WLines} (h : LinesAt K C H a L) (s : Same H H') : LinesAt K C H' a L := by
  obtain ⟨dx, t, e, o, st, h1, h2, h3, h4, h5⟩ := h.ex
  exact ⟨dx, t, e, o, st, s _ _ h1, same_tup s h2, h3.same s, h4.same s, s.seq h5⟩
/-- the class of lines -/
structure LinesC (K : PySem.W.Frag) (C : Addr) : Prop where
  cl : Cls K C
  nh : NoAttr K C "halves"
  ns : NoAttr K C "starts"
def spNext (K : PySem.W.Frag) (C : Addr) : Sp := fun vs H Q _ => ∃ (l b : Addr) (L : WLines) (d : Nat) (ns : List Int) (n m : Nat), vs = [.ref l, .ref b, .int (d : Int)] ∧ LinesAt K C H l L ∧ SqL K H b (ns.map V.int) ∧ d < 2 ∧ (L.rows d).length ≤ 900 ∧ (∀ r, r ∈ L.rows d → RowIn n ns.length r) ∧
  (∀ z, z ∈ ns → z.natAbs < 2 ^ m) ∧ 0 < n ∧ 0 < m ∧ n + m ≤ 1000000 ∧ ∀ H' p, Same H H' → H p = none → H' p = some (.lst ((stepped (L.rows d) ns).map V.int)) → Q (.ref p) H'
theorem scNext : FnScope ["lines", "values", "digit"] ["lines", "values", "digit"] (defScope sNext) := ⟨rfl, rfl, rfl, by decide +kernel, rfl, by decide +kernel, by decide +kernel⟩
theorem rows_at {C : Addr} {H : Hp} {l : Addr} {L : WLines} (h : LinesAt K C H l L) (d : Nat) (hd : d < 2) : ∃ dx t e o s x, H l = some (.ins C dx (lineF t s)) ∧ SqT K H t [.ref e, .ref o] ∧ ([V.ref e, V.ref o] : List V)[d]? = some (.ref x) ∧ RowsAt K H x (L.rows d) ∧ SqL K H s (L.starts.map V.int) := by
  obtain ⟨dx, t, e, o, st, h1, h2, h3, h4, h5⟩ := h.ex
  by_cases h0 : d = 0
  · subst h0; exact ⟨dx, t, e, o, st, e, h1, h2, rfl, h3, h5⟩
  · have : d = 1 := by omega
    subst this; exact ⟨dx, t, e, o, st, o, h1, h2, rfl, h4, h5⟩
theorem ok_next {C : Addr} {f fS : Addr} {fd fdS : FuncData} (F : Fun K "next_values" "next_values" sNext f fd) (T : LinesC K C) (FS : Fn' P w K mg base 2 "stepped_values" fS fdS ["mixes", "values"] (spStepped K)) :
    FnOk P w K mg base CX0 3 f fd ["lines", "values", "digit"] (spNext K C) := by
  refine F.ok scNext (fun vs H Q E h => ?_) (fun cdv A outer s H vs Q E hr h => ?_)
  · obtain ⟨l, b, L, d, ns, n, m, rfl, _⟩ := h
    rfl
  · obtain ⟨l, b, L, d, ns, n, m, rfl, hl, hb, hd, hM, hrow, hz, n0, m0, hnm, k⟩ := h
    obtain ⟨dx, t, e, o, s', x, h1, h2, h3, h4, h5⟩ := rows_at hl d hd
    refine ⟨_, pss_one (ps_ret (pe_call FS.ok hr rfl FS.m FS.k FS.b .nil pass0 (pa_cons (pe_ix ix_tup (pe_fld (pv 0) rfl) (pv 2) (fun _ _ => rfl)) (pa_cons (pv 1) pa_nil)))), ?_⟩
    refine ⟨_, rfl, l, C, dx, _, _, rfl, h1, T.cl, T.nh, lineF_h t s', _, rfl, t, _, _, _, rfl, rfl, h2, atI_nat h3, _, rfl, x, b, L.rows d, ns, n, m, rfl, h4, hb, hM, hrow, hz, n0, m0, hnm, k⟩
end
end L2.EH
end S_L1
section S_L2
set_option maxRecDepth 100000
set_option maxHeartbeats 4000000
namespace L2.EH
open PySem PySem.Spec PyProof.Rows
open L2.Halves (has keys Clean sumOf stepped Small WLines WOk vat combInto combined nonzero addRow put)
/-! ### locked or not -/
def tLockO (t : TS) : TS := fun D σ H => tLock t D σ H ∨ t D σ H
theorem ps_lockO {X : Cx} {st : Stmt} {t : TS} (h : PS X st t) : PS X st (tLockO t) :=
  ⟨fun pins s σ H D I hw => hw.elim (fun q => (ps_lock h).run pins s σ H D I q) (fun q => h.run pins s σ H D I q)⟩
theorem addRow_snoc (t : Int) : ∀ (l mixed : Halves.Row) (p : Nat × Int), addRow t mixed (l ++ [p]) = put (addRow t mixed l) p.1 (Halves.get (addRow t mixed l) p.1 + t * p.2)
  | [], _, _ => rfl
  | (k, v) :: l, mixed, p => by
    simp only [List.cons_append, addRow]
    exact addRow_snoc t l _ p
theorem combInto_snoc (M : List Halves.Row) : ∀ (f mixed : Halves.Row) (p : Nat × Int), combInto M (f ++ [p]) mixed = addRow p.2 (combInto M f mixed) (M.getD p.1 [])
  | [], _, _ => rfl
  | (k, v) :: f, mixed, p => by
    simp only [List.cons_append, combInto]
    exact combInto_snoc M f _ p
theorem nonzero_snoc (r : Halves.Row) (i : Nat) (p : Nat × Int) (h : r[i]? = some p) : nonzero (r.take (i + 1)) = nonzero (r.take i) ++ (if p.2 ≠ 0 then [p] else []) := by
  rw [take_snoc r i p h]
  unfold nonzero
  rw [List.filter_append]
  by_cases hp : p.2 = 0 <;> simp [hp]
theorem nonzero_new (r : Halves.Row) (i : Nat) (p : Nat × Int) (h : r[i]? = some p) (hn : (keys r).Nodup) : p.1 ∉ keys (nonzero (r.take i)) := fun hm =>
  take_new r i p h hn ((Halves.nonzero_keys _).subset hm)
theorem row_len {w : Nat} {r : Halves.Row} (hn : (keys r).Nodup) (hl : ∀ i, i ∈ keys r → i < w) : r.length ≤ w := by
  have h1 : (keys r).length = r.length := by simp [keys]
  rw [← h1]; exact Halves.nodup_lt w _ hn hl
def spCombined (K : PySem.W.Frag) : Sp := fun vs H Q _ => ∃ (a b : Addr) (f : Halves.Row) (M : List Halves.Row) (n m w : Nat), vs = [.ref a, .ref b] ∧ H a = some (.dK (rowK f)) ∧ RowsAt K H b M ∧ RowIn n M.length f ∧ (∀ r, r ∈ M → RowIn m w r) ∧ w ≤ 900 ∧
  0 < n ∧ 0 < m ∧ n + m ≤ 1000000 ∧ ∀ H' p, Same H H' → H p = none → H' p = some (.dK (rowK (combined f M))) → Q (.ref p) H'
theorem scCombined : FnScope ["factors", "mixes", "mixed", "at", "times", "mix", "to"] ["factors", "mixes"] (defScope sCombined) := ⟨rfl, rfl, rfl, by decide +kernel, rfl, by decide +kernel, by decide +kernel⟩
section
variable {P : Program} {w : World} {K : PySem.W.Frag} {mg : Str → Option Value} {base : Heap}
theorem upd_self {H : Hp} {a : Addr} {o : HO} (h : H a = some o) : upd H a o = H := by
  funext b
  by_cases e : b = a
  · subst e; rw [upd_same, h]
  · rw [upd_ne e]
theorem upd_swap {H : Hp} {a b : Addr} {o q : HO} (h : a ≠ b) : upd (upd H a o) b q = upd (upd H b q) a o := by
  funext c
  by_cases e : c = a
  · subst e; rw [upd_ne h, upd_same, upd_same]
  · by_cases e2 : c = b
    · subst e2; rw [upd_same, upd_ne e, upd_same]
    · rw [upd_ne e2, upd_ne e, upd_ne e, upd_ne e2]
theorem ok_combined {f : Addr} {fd : FuncData} (F : Fun K "combined" "combined" sCombined f fd) : FnOk P w K mg base CX0 1 f fd ["factors", "mixes"] (spCombined K) := by
  refine F.ok scCombined (fun vs H Q E h => ?_) (fun cdv A outer s H vs Q E hr h => ?_)
  · obtain ⟨a, b, f, M, n, m, w, rfl, _⟩ := h
    rfl
  · obtain ⟨a, b, f, M, n, m, w, rfl, ha, ⟨xs, hx, hxl, hxr⟩, hf, hM, hw, n0, m0, hnm, k⟩ := h
    have hu := hu_of hr
    have nd := scCombined.nd
    refine ⟨_, pss_cons (ps_set (i := 2) nd rfl (Or.inr rfl) pe_dnewK)
      (pss_cons (ps_lock (ps_for PassesOwn.never rfl (pi_keys (pv 0)) (pg_name (i := 3) nd rfl (Or.inl rfl))
        (pss_cons (ps_set (i := 4) nd rfl (Or.inl rfl) (pe_dget hu (pv 0) (pv 3) (fun _ _ => rfl)))
        (pss_cons (ps_set (i := 5) nd rfl (Or.inl rfl) (pe_ix ix_list (pv 1) (pv 3) (fun _ _ => rfl)))
        (pss_one (ps_lockO (ps_for PassesOwn.never rfl (pi_keys (pv 5)) (pg_name (i := 6) nd rfl (Or.inl rfl))
          (pss_one (ps_dput hu (pv 2) (pv 6) (pe_op op_add (pe_dget2 hu (pv 2) (pv 6) pe_int ⟨rfl, rfl, rfl, rfl⟩) (pe_op op_mulW (pv 4) (pe_dget hu (pv 5) (pv 6) (fun _ _ => rfl)))) rfl)))))))))
      (pss_one (ps_ret (pe_lock (pe_dc (own := [("to", 6)]) (g := gName 6) rfl nd (pi_keys (pv 2)) (blkOk_by (N := ["factors", "mixes", "mixed", "at", "times", "mix", "to"]) (sc := defScope sCombined) (by decide +kernel))
        (fun _ _ _ _ _ => pg_name (i := 6) nd rfl (Or.inl rfl) (Or.inr rfl))
        (fun _ _ _ _ _ => pts_one (pt_cmpR op_ne (pe_dget (by exact hu) (pv 2) (pv 6) (fun _ _ => rfl)) pe_int (nomark _))) (fun _ _ _ _ _ => pv 6) (fun _ _ _ _ _ => pe_dget (by exact hu) (pv 2) (pv 6) (fun _ _ => rfl))))))), ?_⟩
    intro d hd
    have hda : d ≠ a := by intro e; rw [e, ha] at hd; cases hd
    have hs1 : Same H (upd H d (.dK [])) := fun y o' ho => by rw [upd_ne (by intro e; rw [e, hd] at ho; cases ho)]; exact ho
    have nodC : ∀ g : Halves.Row, (keys (combInto M g [])).Nodup := fun g => Halves.combInto_nodup M g [] (by simp [keys])
    have keyC : ∀ g : Halves.Row, ∀ i, i ∈ keys (combInto M g []) → i < w := fun g i hi => by
      rcases Halves.combInto_keys M g [] i hi with h | ⟨r, hr, h⟩
      · simp [keys] at h
      · exact (hM r hr).lt i h
    -- what comes behind the loops
    have rest : ∀ (Hc : Hp) (y3 y4 y5 y6 : Option V) , Same H Hc → Hc d = some (.dK (rowK (combInto M f []))) →
        (tRet (tLockE (tDc (iKeys (tVar 2)) (gName 6) (tTest (tOp rNe (tDGet (tVar 2) (tVar 6)) (tC (V.int 0)))) (tVar 6) (tDGet (tVar 2) (tVar 6)) (List.map (fun x => x.snd) [(Str.ofString "to", 6)]))))
        { nx := fun x H' => Q V.non H', rt := Q } [some (.ref a), some (.ref b), some (.ref d), y3, y4, y5, y6] Hc := fun Hc y3 y4 y5 y6 hs hD => by
      refine ⟨d, _, hD, trivial, fun od => ⟨_, rfl, d, od, rfl, .inl ⟨_, upd_same, fun D nD => ?_⟩⟩⟩
      have hDd : D ≠ d := by intro e; rw [e, upd_same] at nD; cases nD
      have nD' : Hc D = none := by rw [upd_ne hDd] at nD; exact nD
      have nDH : H D = none := hs.free nD'
      have cn := nodC f
      generalize hg : combInto M f [] = g at *
      have hgl : g.length ≤ w := row_len cn (by rw [← hg]; exact keyC f)
      refine ⟨fun i mm Hk => i ≤ g.length ∧ mm = g.length - i ∧ Hk d = some (.frz od (.dK (rowK g))) ∧ (∀ y o, y ≠ d → Hc y = some o → Hk y = some o) ∧ Hk D = some (.dK (rowK (nonzero (g.take i)))), ⟨g.length, Nat.zero_le _, rfl, ?_, ?_, ?_⟩, ?_⟩
      · rw [upd_ne (Ne.symm hDd), upd_same]
      · intro y o hy ho
        rw [upd_ne (by intro e; rw [e, nD'] at ho; cases ho), upd_ne hy]; exact ho
      · rw [upd_same]; rfl
      · rintro i mm Hk ⟨hi, rfl, hA, hsk, hDk⟩
        by_cases hlt : i < g.length
        · refine .inr ⟨⟨hA, by rw [rowK_length]; exact hlt⟩, fun H' => H' d = some (.frz od (.dK (rowK g))) ∧ (∀ y o, y ≠ d → Hc y = some o → H' y = some o) ∧ H' D = some (.dK (rowK (nonzero (g.take (i + 1))))), fun H' h => ⟨g.length - (i + 1), by omega, by omega, rfl, h⟩, fun x' H' y => ?_⟩
          obtain ⟨rfl, kk, v, hkv, rfl⟩ := y
          obtain ⟨p, hp, rfl, rfl⟩ := rowK_get g i kk v hkv
          have hpm : p ∈ g := List.mem_of_getElem? hp
          have hv : valV (rowK g) (Sum.inl (p.1 : Int)) = some (V.int p.2) := by
            rw [valV_rowK, if_pos ((Halves.has_iff g p.1).2 (List.mem_map.2 ⟨p, hpm, rfl⟩)), Halves.get_of_mem g p cn hpm]
          have dg : DGet H' d (kV (Sum.inl (p.1 : Int))) (some (V.int p.2)) := .inl ⟨_, Sum.inl (p.1 : Int), .inr ⟨od, hA⟩, rfl, hv.symm⟩
          refine ⟨rfl, ?_⟩
          refine ⟨_, rfl, _, rfl, d, _, rfl, dg, rfl, _, rfl, ?_⟩
          rw [nonzero_snoc g i p hp]
          by_cases h0 : p.2 = 0
          · have ed : (!decide (V.int p.2 = V.int 0)) = false := by simp [h0]
            rw [ed, if_neg (by simpa using h0), List.append_nil]
            exact iteF ⟨hA, hsk, hDk⟩
          · have ed : (!decide (V.int p.2 = V.int 0)) = true := by simpa using h0
            rw [ed, if_pos h0]
            refine iteT ⟨_, rfl, _, rfl, _, rfl, d, _, rfl, dg, _, Sum.inl (p.1 : Int), rfl, hDk, ?_, ?_⟩
            · rw [rowK_length]
              have : (nonzero (g.take i)).length ≤ g.length := Nat.le_trans (List.length_filter_le ..) (by simp; omega)
              exact small1000 (by omega)
            · rw [putK_new (nonzero_new g i p hp cn)]
              refine ⟨by rw [upd_ne (Ne.symm hDd)]; exact hA, fun y o hy ho => ?_, upd_same⟩
              rw [upd_ne (by intro e; rw [e, nD'] at ho; cases ho)]
              exact hsk y o hy ho
        · have e : i = g.length := by omega
          refine .inl ⟨⟨hA, by rw [rowK_length]; omega⟩, hA, ?_⟩
          rw [e, List.take_length] at hDk
          refine k _ D (fun y o hy => ?_) nDH (by rw [upd_ne hDd, hDk, ← hg]; rfl)
          have hyc := hs _ _ hy
          by_cases ey : y = d
          · subst ey; rw [hd] at hy; cases hy
          · rw [upd_ne ey]; exact hsk y o ey hyc
    refine ⟨a, _, hs1 _ _ ha, trivial, fun od => ⟨_, rfl, a, od, rfl, .inl ⟨_, upd_same, ?_⟩⟩⟩
    refine for_keys (fun i σ Hk => Hk a = some (.frz od (.dK (rowK f))) ∧ (∀ y o', y ≠ a → H y = some o' → Hk y = some o') ∧ Hk d = some (.dK (rowK (combInto M (f.take i) []))) ∧ ∃ y3 y4 y5 y6, σ = [some (.ref a), some (.ref b), some (.ref d), y3, y4, y5, y6]) ⟨upd_same, fun y o' hy ho => by rw [upd_ne hy]; exact hs1 _ _ ho, by rw [upd_ne hda, upd_same]; rfl, _, _, _, _, rfl⟩ ?_ ?_ ?_
    · rintro i σ Hk _ ⟨h, _⟩; exact h
    · rintro i kk v σ Hk hi ⟨hA, hk, hD2, y3, y4, y5, y6, rfl⟩
      obtain ⟨q, hq, rfl, rfl⟩ := rowK_get f i kk v hi
      have hqm : q ∈ f := List.mem_of_getElem? hq
      have hqk : q.1 ∈ keys f := List.mem_map.2 ⟨q, hqm, rfl⟩
      have hqlt : q.1 < M.length := hf.lt _ hqk
      have hqlt' : q.1 < xs.length := by omega
      have dg : DGet Hk a (.int (q.1 : Int)) (some (.int q.2)) := .inl ⟨_, Sum.inl (q.1 : Int), .inr ⟨od, hA⟩, rfl, by rw [valV_rowK, if_pos ((Halves.has_iff f _).2 hqk), Halves.get_of_mem f q hf.nd hqm]⟩
      have hb2 : SqL K Hk b (xs.map V.ref) := by
        rcases hx with (h | ⟨o', h⟩) | h
        · exact .inl (.inl (hk b _ (by intro e; rw [e, ha] at h; cases h) h))
        · exact .inl (.inr ⟨o', hk b _ (by intro e; rw [e, ha] at h; cases h) h⟩)
        · exact .inr h
      refine ⟨_, rfl, _, rfl, a, _, rfl, dg, ?_⟩
      refine ⟨_, rfl, _, rfl, b, _, _, _, rfl, rfl, hb2, atI_nat (by rw [List.getElem?_map, List.getElem?_eq_getElem hqlt']; rfl), ?_⟩
      have hr := hM _ (List.getElem_mem hqlt)
      have eg : M.getD q.1 [] = M[q.1] := by simp [List.getD, List.getElem?_eq_getElem hqlt]
      have hxd : xs[q.1] ≠ d := by intro e; have := hxr q.1 hqlt' hqlt; rw [e, hd] at this; cases this
      -- the inner loop
      have inner : ∀ (D0 : Ends) (oo : Obj) (Hc : Hp), Hc xs[q.1] = some (.frz oo (.dK (rowK M[q.1]))) → Hc d = some (.dK (rowK (combInto M (f.take i) []))) →
          (∀ y, D0.nx [some (.ref a), some (.ref b), some (.ref d), some (.int (q.1 : Int)), some (.int q.2), some (.ref xs[q.1]), y] (upd Hc d (.dK (rowK (combInto M (f.take (i + 1)) []))))) →
          tFor (iKeys (tVar 5)) (gName 6) (sDPut (tVar 2) (tVar 6) (tOp (rI0 fun i j => V.int (i + j)) (tDGet2 (tVar 2) (tVar 6) (tC (V.int 0))) (tOp (rI CMulW fun i j => V.int (i * j)) (tVar 4) (tDGet (tVar 5) (tVar 6)))))
            D0 [some (.ref a), some (.ref b), some (.ref d), some (.int (q.1 : Int)), some (.int q.2), some (.ref xs[q.1]), y6] Hc := fun D0 oo Hc hx1 hd1 kk => by
        refine ⟨_, rfl, xs[q.1], oo, rfl, .inl ⟨_, hx1, ?_⟩⟩
        generalize hmx : combInto M (f.take i) [] = mx at *
        have mxn : (keys mx).Nodup := by rw [← hmx]; exact nodC _
        have mxk : ∀ j, j ∈ keys mx → j < w := by rw [← hmx]; exact keyC _
        have hnx : combInto M (f.take (i + 1)) [] = addRow q.2 mx M[q.1] := by rw [take_snoc f i q hq, combInto_snoc, hmx, eg]
        rw [hnx] at kk
        refine for_keys (fun j σ H' => H' = upd Hc d (.dK (rowK (addRow q.2 mx (M[q.1].take j)))) ∧ ∃ y, σ = [some (.ref a), some (.ref b), some (.ref d), some (.int (q.1 : Int)), some (.int q.2), some (.ref xs[q.1]), y]) ⟨by rw [List.take_zero]; exact (upd_self hd1).symm, _, rfl⟩ ?_ ?_ ?_
        · rintro j σ H' _ ⟨rfl, _⟩
          rw [upd_ne hxd]; exact hx1
        · rintro j kk2 v2 σ H' hj ⟨rfl, y, rfl⟩
          obtain ⟨p, hp, rfl, rfl⟩ := rowK_get M[q.1] j kk2 v2 hj
          have hpm : p ∈ M[q.1] := List.mem_of_getElem? hp
          have hpk : p.1 ∈ keys M[q.1] := List.mem_map.2 ⟨p, hpm, rfl⟩
          have adn := Halves.addRow_nodup q.2 (M[q.1].take j) mx mxn
          have adk : ∀ z, z ∈ keys (addRow q.2 mx (M[q.1].take j)) → z < w := fun z hz => by
            rcases Halves.addRow_keys q.2 _ mx z hz with h | h
            · exact mxk z h
            · exact hr.lt z ((List.take_sublist j M[q.1]).map (·.1) |>.subset h)
          have hlen := row_len adn adk
          have dgx : DGet (upd Hc d (.dK (rowK (addRow q.2 mx (M[q.1].take j))))) xs[q.1] (.int (p.1 : Int)) (some (.int p.2)) := .inl ⟨_, Sum.inl (p.1 : Int), .inr ⟨oo, by rw [upd_ne hxd]; exact hx1⟩, rfl, by rw [valV_rowK, if_pos ((Halves.has_iff _ _).2 hpk), Halves.get_of_mem _ p hr.nd hpm]⟩
          refine ⟨_, rfl, d, rfl, .inl ⟨_, .inl upd_same⟩, _, rfl, _, DGet.k (k := Sum.inl (p.1 : Int)) upd_same, _, rfl, _, rfl, _, rfl, xs[q.1], _, rfl, dgx, _, _, rfl, rfl, wide_mul (hf.sm q hqm) (hr.sm p hpm) n0 m0 hnm, ?_⟩
          rw [getD_row]
          refine ⟨_, _, rfl, rfl, _, rfl, _, rfl, d, _, rfl, DPut.k (k := Sum.inl (p.1 : Int)) upd_same (by rw [rowK_length]; exact small1000 (by omega)), ?_⟩
          rw [putK_row _ adn, ← addRow_snoc, ← take_snoc _ j p hp, upd_upd]
          exact ⟨rfl, _, rfl⟩
        · rintro σ H' ⟨rfl, y, rfl⟩
          rw [rowK_length, List.take_length]
          exact kk y
      by_cases hxa : xs[q.1] = a
      · -- the row is the one that is walked
        have er : rowK f = rowK M[q.1] := by
          have h1 := hxr q.1 hqlt' hqlt
          rw [hxa, ha] at h1
          injection h1 with h1; injection h1
        refine .inr (inner _ od Hk (by rw [hxa, hA, er]) hD2 fun y => ⟨by rw [upd_ne (Ne.symm hda)]; exact hA, fun z o' hz ho => ?_, upd_same, _, _, _, _, rfl⟩)
        rw [upd_ne (by intro e; rw [e, hd] at ho; cases ho)]; exact hk z o' hz ho
      · have hxk : Hk xs[q.1] = some (.dK (rowK M[q.1])) := hk _ _ hxa (hxr q.1 hqlt' hqlt)
        refine .inl ⟨xs[q.1], _, hxk, trivial, fun oo => inner _ oo _ upd_same (by rw [upd_ne (Ne.symm hxd)]; exact hD2) fun y => ?_⟩
        refine ⟨by rw [upd_ne hxd, upd_same], ?_⟩
        rw [upd_swap hxd, upd_upd, upd_self (by rw [upd_ne hxd]; exact hxk)]
        refine ⟨by rw [upd_ne (Ne.symm hda)]; exact hA, fun z o' hz ho => ?_, upd_same, _, _, _, _, rfl⟩
        rw [upd_ne (by intro e; rw [e, hd] at ho; cases ho)]; exact hk z o' hz ho
    · rintro σ Hk ⟨hA, hk, hD2, y3, y4, y5, y6, rfl⟩
      rw [rowK_length, List.take_length] at hD2
      refine ⟨hA, rest _ _ _ _ _ (fun y o' ho => ?_) (by rw [upd_ne hda]; exact hD2)⟩
      by_cases ey : y = a
      · subst ey; rw [upd_same, ← ha]; exact ho
      · rw [upd_ne ey]; exact hk y o' ey ho
end
end L2.EH
end S_L2
section S_L3
set_option maxRecDepth 100000
set_option maxHeartbeats 4000000
namespace L2.EH
open PySem PySem.Spec PyProof.Rows
open L2.Halves (has keys Clean sumOf stepped Small WLines WOk vat combInto combined nonzero addRow put combAll pairOf fourOf WRow)
/-! ### bounds of lines -/
structure WB (L : WLines) (a b c : Nat) : Prop where
  ok : WOk L
  len : L.starts.length < 2 ^ c
  rows : ∀ d r, r ∈ L.rows d → Small a r
  st : ∀ z, z ∈ L.starts → z.natAbs < 2 ^ b
  a0 : 0 < a
  b0 : 0 < b
  al : a ≤ 150
  bl : b ≤ 100000
  cl : c ≤ 9
theorem WB.width {L : WLines} {a b c : Nat} (h : WB L a b c) : L.starts.length ≤ 511 := by
  have h1 := h.len
  have h2 : (2 : Nat) ^ c ≤ 2 ^ 9 := Nat.pow_le_pow_right (by decide) h.cl
  have h3 : (2 : Nat) ^ 9 = 512 := by decide
  omega
theorem WB.rowIn {L : WLines} {a b c : Nat} (h : WB L a b c) (d : Nat) : ∀ r, r ∈ L.rows d → RowIn a L.starts.length r := fun r hr => by
  have q := h.ok.row d r hr
  have := Halves.row_length q
  have := h.width
  exact ⟨q.clean.nodup, q.small, by omega, h.rows d r hr⟩
theorem small_mono {a b : Nat} (hab : a ≤ b) {r : Halves.Row} (h : Small a r) : Small b r := fun p hp => Nat.lt_of_lt_of_le (h p hp) (Nat.pow_le_pow_right (by decide) hab)
theorem combAll_row {w a b c : Nat} {lo hi : List Halves.Row} (hw : w ≤ 511) (hl : ∀ r, r ∈ lo → RowIn a hi.length r) (hh : ∀ r, r ∈ hi → RowIn b w r) (hw2 : hi.length ≤ 511) (hc : hi.length < 2 ^ c) :
    ∀ r, r ∈ combAll lo hi → RowIn (a + b + c) w r := fun r hr => by
  obtain ⟨q, hq, rfl⟩ := List.mem_map.1 hr
  have hk := Halves.combined_keys (f := q) (M := hi) (w := w) (fun r hr i hi' => (hh r hr).lt i hi')
  have hn := (Halves.combined_clean q hi).nodup
  have := row_len hn hk
  refine ⟨hn, hk, by omega, ?_⟩
  have hql := row_len (hl q hq).nd (hl q hq).lt
  exact Halves.combined_small (hl q hq).sm (fun r hr => ⟨(hh r hr).sm, (hh r hr).nd⟩) (by omega)
theorem pair_len {L : WLines} {a b c : Nat} (h : WB L a b c) (p : Nat) : (pairOf L p).length = L.starts.length := by
  unfold pairOf combAll; rw [List.length_map, h.ok.len]
theorem four_len {L : WLines} {a b c : Nat} (h : WB L a b c) (p : Nat) : (fourOf L p).length = L.starts.length := by
  unfold fourOf combAll; rw [List.length_map, pair_len h]
theorem pair_row {L : WLines} {a b c : Nat} (h : WB L a b c) (p : Nat) : ∀ r, r ∈ pairOf L p → RowIn (a + a + c) L.starts.length r :=
  combAll_row h.width (by rw [h.ok.len]; exact h.rowIn _) (h.rowIn _) (by rw [h.ok.len]; exact h.width) (by rw [h.ok.len]; exact h.len)
theorem four_row {L : WLines} {a b c : Nat} (h : WB L a b c) (p : Nat) : ∀ r, r ∈ fourOf L p → RowIn (a + a + c + (a + a + c) + c) L.starts.length r :=
  combAll_row h.width (by rw [pair_len h]; exact pair_row h _) (pair_row h _) (by rw [pair_len h]; exact h.width) (by rw [pair_len h]; exact h.len)
theorem vat_small {L : WLines} {a b c : Nat} (h : WB L a b c) {n : Nat} (hn : n < 2 ^ 1100) : ∀ z, z ∈ vat L n → z.natAbs < 2 ^ 300000 := fun z hz => by
  refine Nat.lt_of_lt_of_le (Halves.vat_bound h.ok h.len h.rows h.st 1100 n hn z hz) (Nat.pow_le_pow_right (by decide) ?_)
  have := h.al; have := h.bl; have := h.cl
  omega
def spHalfMix (K : PySem.W.Frag) (C : Addr) : Sp := fun vs H Q _ => ∃ (l x : Addr) (L : WLines) (mix : Halves.Row) (d n m w : Nat), vs = [.ref l, .ref x, .int (d : Int)] ∧ LinesAt K C H l L ∧ H x = some (.dK (rowK mix)) ∧ d < 2 ∧ RowIn n (L.rows d).length mix ∧ (∀ r, r ∈ L.rows d → RowIn m w r) ∧ w ≤ 900 ∧
  0 < n ∧ 0 < m ∧ n + m ≤ 1000000 ∧ ∀ H' p, Same H H' → H p = none → H' p = some (.dK (rowK (combined mix (L.rows d)))) → Q (.ref p) H'
theorem scHalfMix : FnScope ["lines", "mix", "digit"] ["lines", "mix", "digit"] (defScope sHalfMix) := ⟨rfl, rfl, rfl, by decide +kernel, rfl, by decide +kernel, by decide +kernel⟩
section
variable {P : Program} {w : World} {K : PySem.W.Frag} {mg : Str → Option Value} {base : Heap}
theorem ok_halfMix {C f fC : Addr} {fd fdC : FuncData} (F : Fun K "half_mix" "half_mix" sHalfMix f fd) (T : LinesC K C) (FC : Fn' P w K mg base 1 "combined" fC fdC ["factors", "mixes"] (spCombined K)) :
    FnOk P w K mg base CX0 2 f fd ["lines", "mix", "digit"] (spHalfMix K C) := by
  refine F.ok scHalfMix (fun vs H Q E h => ?_) (fun cdv A outer s H vs Q E hr h => ?_)
  · obtain ⟨l, x, L, mix, d, n, m, w, rfl, _⟩ := h
    rfl
  · obtain ⟨l, x, L, mix, d, n, m, w, rfl, hl, hx, hd, hf, hM, hw, n0, m0, hnm, k⟩ := h
    obtain ⟨dx, t, e, o, s', y, h1, h2, h3, h4, h5⟩ := rows_at hl d hd
    refine ⟨_, pss_one (ps_ret (pe_call FC.ok hr rfl FC.m FC.k FC.b .nil pass0 (pa_cons (pv 1) (pa_cons (pe_ix ix_tup (pe_fld (pv 0) rfl) (pv 2) (fun _ _ => rfl)) pa_nil)))), ?_⟩
    exact ⟨_, rfl, _, rfl, l, C, dx, _, _, rfl, h1, T.cl, T.nh, lineF_h t s', _, rfl, t, _, _, _, rfl, rfl, h2, atI_nat h3, x, y, mix, L.rows d, n, m, w, rfl, hx, h4, hf, hM, hw, n0, m0, hnm, k⟩
end
end L2.EH
end S_L3
section S_L4
set_option maxRecDepth 100000
set_option maxHeartbeats 4000000
namespace L2.EH
open PySem PySem.Spec PyProof.Rows
open L2.Halves (has keys Clean sumOf stepped Small WLines WOk vat combInto combined nonzero addRow put combAll pairOf fourOf WRow)
/-- the heap without what stands at z -/
def drop (z : Addr) (H : Hp) : Hp := fun b => if b = z then none else H b
theorem drop_ne {z b : Addr} {H : Hp} (h : b ≠ z) : drop z H b = H b := if_neg h
theorem drop_same (z : Addr) (H : Hp) : Same (drop z H) H := fun b o e => by
  unfold drop at e
  split at e
  · cases e
  · exact e
theorem drop_upd (z : Addr) (H : Hp) (o : HO) : drop z (upd H z o) = drop z H := by
  funext b
  by_cases e : b = z
  · subst e; simp [drop]
  · rw [drop_ne e, drop_ne e, upd_ne e]
theorem drop_mono {z : Addr} {H H' : Hp} (s : Same H H') : Same (drop z H) (drop z H') := fun b o e => by
  by_cases h : b = z
  · subst h; simp [drop] at e
  · rw [drop_ne h] at e ⊢; exact s b o e
section
variable {K : PySem.W.Frag}
theorem lc_comb {x D : Addr} {vs : List Nat} {σ : St} {H1 : Hp} {g : TG} {te : TE} {Qd : Hp → Prop} (lo hi : List Halves.Row) (hlo : RowsAt K H1 x lo) (nD : H1 D = none) (hl : lo.length ≤ 900)
    (step : ∀ i (h : i < lo.length) (a : Addr) (Hc : Hp) (Q : V → Hp → Prop), Same H1 Hc → Hc a = some (.dK (rowK lo[i])) → (∀ H' p, Same Hc H' → Hc p = none → H' p = some (.dK (rowK (combined lo[i] hi))) → Q (.ref p) H') →
      g (.ref a) (wipe σ vs) Hc fun σ2 H2 => wipe σ2 vs = wipe σ vs ∧ te σ2 H2 Q)
    (done : ∀ H', Same H1 H' → (∀ z, H1 z ≠ none → RowsAt K (drop z H') D (combAll lo hi)) → RowsAt K H' D (combAll lo hi) → Qd H') :
    ∃ W : Nat → Nat → Hp → Prop, (∃ m, W 0 m (upd H1 D (.lst []))) ∧ ∀ i m H, W i m H →
      ((Itl K x).stop i H ∧ Qd H) ∨ ((Itl K x).go i H ∧ ∃ Nx : Hp → Prop, (∀ H', Nx H' → ∃ m', m' < m ∧ W (i + 1) m' H') ∧ ∀ y H', (Itl K x).yld i H y H' → g y (wipe σ vs) H' fun σ2 H2 => wipe σ2 vs = wipe σ vs ∧ tYes σ2 H2 fun b H3 =>
        if b = true then te σ2 H3 fun y H4 => ∃ acc, H4 D = some (.lst acc) ∧ acc.length < sizeLine ∧ Nx (upd H4 D (.lst (acc ++ [y]))) else Nx H3) := by
  obtain ⟨xs, hx, hxl, hxr⟩ := hlo
  refine lc_list (K := K) (a := x) (xs := xs.map V.ref) (fun i Hc => Same H1 Hc ∧ ∃ ys : List Addr, Hc D = some (.lst (ys.map V.ref)) ∧ ys.length = i ∧ ∀ j (h : j < ys.length) (h' : j < lo.length), ys[j] ≠ D ∧ H1 ys[j] = none ∧ Hc ys[j] = some (.dK (rowK (combined lo[j] hi)))) ⟨?_, [], by rw [upd_same]; rfl, rfl, fun j h => absurd h (by simp)⟩ ?_ ?_ ?_
  · intro y o hy
    rw [upd_ne (by intro e; rw [e, nD] at hy; cases hy)]; exact hy
  · rintro i Hc _ ⟨hs, _⟩
    exact hs.seq hx
  · rintro i y Hc hyi ⟨hs, ys, hD, hyl, hyr⟩
    rw [List.getElem?_map] at hyi
    cases hxi : xs[i]? with
    | none => rw [hxi] at hyi; cases hyi
    | some d =>
      rw [hxi] at hyi
      cases hyi
      obtain ⟨hlt, rfl⟩ := List.getElem?_eq_some_iff.1 hxi
      have hlt' : i < lo.length := by omega
      have st := step i hlt' xs[i] Hc (fun y H4 => ∃ acc, H4 D = some (.lst acc) ∧ acc.length < sizeLine ∧ (Same H1 (upd H4 D (.lst (acc ++ [y]))) ∧ ∃ ys : List Addr, (upd H4 D (.lst (acc ++ [y]))) D = some (.lst (ys.map V.ref)) ∧ ys.length = i + 1 ∧ ∀ j (h : j < ys.length) (h' : j < lo.length), ys[j] ≠ D ∧ H1 ys[j] = none ∧ (upd H4 D (.lst (acc ++ [y]))) ys[j] = some (.dK (rowK (combined lo[j] hi))))) hs (hs _ _ (hxr i hlt hlt')) (fun H' p hs' hp hv => ?_)
      · exact st
      · have hpD : p ≠ D := by intro e; rw [e, hD] at hp; cases hp
        refine ⟨_, hs' _ _ hD, small1000 (by rw [List.length_map]; omega), fun z o hz => ?_, ys ++ [p], ?_, by simp [hyl], fun j h h' => ?_⟩
        · rw [upd_ne (by intro e; rw [e, nD] at hz; cases hz)]; exact hs' _ _ (hs _ _ hz)
        · rw [upd_same, List.map_append]; rfl
        · by_cases hj : j < ys.length
          · rw [List.getElem_append_left hj]
            obtain ⟨a1, a2, a3⟩ := hyr j hj h'
            exact ⟨a1, a2, by rw [upd_ne a1]; exact hs' _ _ a3⟩
          · have hj2 : j = i := by simp at h; omega
            subst hj2
            have : (ys ++ [p])[j]'h = p := by rw [List.getElem_append_right (by omega)]; simp
            rw [this]
            exact ⟨hpD, hs.free hp, by rw [upd_ne hpD]; exact hv⟩
  · rintro Hc ⟨hs, ys, hD, hyl, hyr⟩
    rw [List.length_map] at hyl
    have hcl : (combAll lo hi).length = ys.length := by simp [combAll]; omega
    have get : ∀ j (h : j < ys.length) (h' : j < (combAll lo hi).length), Hc ys[j] = some (.dK (rowK (combAll lo hi)[j])) := fun j h h' => by
      have h2 : j < lo.length := by omega
      rw [(hyr j h h2).2.2]; simp [combAll]
    refine done Hc hs (fun z hz => ⟨ys, ?_, hcl.symm, fun j h h' => ?_⟩) ⟨ys, SqL.of hD, hcl.symm, get⟩
    · refine SqL.of ?_
      rw [drop_ne (by intro e; rw [e] at nD; exact hz nD)]; exact hD
    · have h2 : j < lo.length := by omega
      rw [drop_ne (by intro e; rw [← e] at hz; exact hz (hyr j h h2).2.1)]; exact get j h h'
end
theorem bits_lt (n : Nat) : n < 2 ^ Builtin.Int.intBits (n : Int) := by
  unfold Builtin.Int.intBits
  by_cases h : n = 0
  · subst h; decide
  · have : ((n : Int) == 0) = false := by simpa using h
    rw [this]
    simp only [Bool.false_eq_true, if_false, Int.natAbs_natCast]
    exact Nat.lt_log2_self
theorem cast_shr (n k : Nat) : (n : Int) / 2 ^ k = ((n / 2 ^ k : Nat) : Int) := by
  rw [Int.natCast_ediv, Int.natCast_pow]; rfl
theorem cast_mod (n k : Nat) : (n : Int) % 2 ^ k = ((n % 2 ^ k : Nat) : Int) := by
  rw [Int.natCast_emod, Int.natCast_pow]; rfl
end L2.EH
end S_L4
section S_L5
set_option maxRecDepth 100000
set_option maxHeartbeats 4000000
namespace L2.EH
open PySem PySem.Spec PyProof.Rows
open L2.Halves (has keys Clean sumOf stepped Small WLines WOk vat combInto combined nonzero addRow put combAll pairOf fourOf WRow)
def spFar (K : PySem.W.Frag) (C : Addr) : Sp := fun vs H Q _ => ∃ (l : Addr) (L : WLines) (n a b c : Nat), vs = [.ref l, .int (n : Int)] ∧ LinesAt K C H l L ∧ WB L a b c ∧ n < 2 ^ 1100 ∧ ∀ H' p, Same H H' → SqL K H' p ((vat L n).map V.int) → Q (.ref p) H'
theorem scFar : FnScope ["lines", "n", "pairs", "fours", "values", "at", "digits", "lows", "high", "low"] ["lines", "n"] (defScope sValuesFar) := ⟨rfl, rfl, rfl, by decide +kernel, rfl, by decide +kernel, by decide +kernel⟩
structure Nm7 (mg : Str → Option Value) : Prop where
  range : mg "range" = none
  reversed : mg "reversed" = none
  any : mg "any" = none
  len : mg "len" = none
/-- a list of lists of rows -/
def ListsAt (K : PySem.W.Frag) (H : Hp) (a : Addr) (Ps : List (List Halves.Row)) : Prop := ∃ xs : List Addr, SqL K H a (xs.map V.ref) ∧ xs.length = Ps.length ∧ ∀ i (h : i < xs.length) (h' : i < Ps.length), RowsAt K H xs[i] Ps[i]
theorem ListsAt.same {K : PySem.W.Frag} {H H' : Hp} {a : Addr} {Ps : List (List Halves.Row)} (h : ListsAt K H a Ps) (s : Same H H') : ListsAt K H' a Ps := by
  obtain ⟨xs, h1, h2, h3⟩ := h
  exact ⟨xs, s.seq h1, h2, fun i p q => (h3 i p q).same s⟩
def pairsOf (L : WLines) : List (List Halves.Row) := [pairOf L 0, pairOf L 1, pairOf L 2, pairOf L 3]
theorem pairsOf_get (L : WLines) (p : Nat) (h : p < (pairsOf L).length) : (pairsOf L)[p] = pairOf L p := by
  have : p < 4 := h
  match p, this with
  | 0, _ => rfl
  | 1, _ => rfl
  | 2, _ => rfl
  | 3, _ => rfl
section
variable {P : Program} {w : World} {K : PySem.W.Frag} {mg : Str → Option Value} {base : Heap}
theorem ok_far {C f fC fS : Addr} {fd fdC fdS : FuncData} (F : Fun K "values_far_out" "values_far_out" sValuesFar f fd) (T : LinesC K C) (B : Nm7 mg) (FC : Fn' P w K mg base 1 "combined" fC fdC ["factors", "mixes"] (spCombined K))
    (FS : Fn' P w K mg base 2 "stepped_values" fS fdS ["mixes", "values"] (spStepped K)) : FnOk P w K mg base CX0 3 f fd ["lines", "n"] (spFar K C) := by
  refine F.ok scFar (fun vs H Q E h => ?_) (fun cdv A outer s H vs Q E hr h => ?_)
  · obtain ⟨l, L, n, a, b, c, rfl, _⟩ := h
    rfl
  · obtain ⟨l, L, n, a, b, c, rfl, hl, hB, hn, k⟩ := h
    have hu := hu_of hr
    have nd := scFar.nd
    obtain ⟨dx, t, e, o, st, h1, h2, h3, h4, h5⟩ := hl.ex
    refine ⟨_, pss_cons (ps_set (i := 2) nd rfl (Or.inr rfl) (pe_lc2 (own := [("high", 8), ("lows", 7)]) (vs1 := [7]) (wi1 := iTup K (tFld K (tVar 0) "halves")) (te := tLc (iList K (tVar 7)) (gName 9) tYes (tCall (spCombined K) [] E0 (tCons (tVar 9) (tCons (tVar 8) tNil))) [9]) (g := gName 8) (g1 := gName 7) (tt := tYes) (tt1 := tYes) rfl nd (pi_tup (pe_fld (pv 0) rfl)) (blkOk_by (N := ["lines", "n", "pairs", "fours", "values", "at", "digits", "lows", "high", "low"]) (sc := defScope sValuesFar) (by decide +kernel)) (by decide)
        (fun _ _ _ _ _ => pg_name (i := 8) nd rfl (Or.inr rfl) (Or.inl rfl)) (fun _ _ _ _ _ => pts_nil) ?hi1 (fun _ _ _ _ _ => pg_name (i := 7) nd rfl (Or.inl rfl) (Or.inr rfl)) (fun _ _ _ _ _ => pts_nil)
        ?he))
      (pss_cons (ps_set (i := 3) nd rfl (Or.inl rfl) pe_dnewK)
      (pss_cons (ps_set (i := 4) nd rfl (Or.inl rfl) (pe_fld (pv 0) rfl))
      (pss_cons (ps_for PassesOwn.never rfl (pi_rev4 rfl B.reversed rfl B.range (pa_cons pe_int (pa_cons (pe_bits (pv 1)) (pa_cons pe_int pa_nil)))) (pg_name (i := 5) nd rfl (Or.inl rfl))
        (pss_cons (ps_set (i := 6) nd rfl (Or.inr rfl) (pe_op op_andM (pe_op op_shrN (pv 1) (pv 5)) pe_int))
        (C8.pss_cut (ps_if (pt_cmp (pc_dnotin hu (pv 6) (pv 3))) (pss_one (ps_dput hu (pv 3) (pv 6)
            (pe_lc (own := [("low", 9)]) (g := gName 9) (tt := tYes) (te := tCall (spCombined K) [] E0 (tCons (tVar 9) (tCons (tOp (rIxL K) (tVar 2) (tOp (rI (fun _ j => 0 ≤ j) fun i j => .int (i / 2 ^ j.toNat)) (tVar 6) (tC (V.int 2)))) tNil))) rfl nd (pi_list (pe_ix ix_list (pv 2) (pe_op op_andM (pv 6) pe_int) (fun _ _ => rfl))) (blkOk_by (N := ["lines", "n", "pairs", "fours", "values", "at", "digits", "lows", "high", "low"]) (sc := defScope sValuesFar) (by decide +kernel)) (fun _ _ _ _ _ => pg_name (i := 9) nd rfl (Or.inl rfl) (Or.inr rfl)) (fun _ _ _ _ _ => pts_nil)
              (fun _ _ _ _ _ => pe_call FC.ok (by exact hr.mono (by decide)) (by rfl) FC.m FC.k FC.b .nil pass0 (pa_cons (pv 9) (pa_cons (pe_ix ix_list (pv 2) (pe_op op_shr (pv 6) pe_int) (fun _ _ => rfl)) pa_nil)))) rfl)) pss_nil)
        (pss_cons (ps_set (i := 4) nd rfl (Or.inl rfl) (pe_call FS.ok hr rfl FS.m FS.k FS.b .nil pass0 (pa_cons (pe_dget hu (pv 3) (pv 6) (fun _ _ => rfl)) (pa_cons (pv 4) pa_nil))))
        (pss_one (ps_if (pt_not (pt_val (pe_callB (cr_anyI rfl) (by rfl) B.any (by decide +kernel) (pa_cons (pv 4) pa_nil)))) (pss_one ps_break) pss_nil))))))
      (pss_one (ps_ret (pv 4)))))), ?_⟩
    case hi1 => exact fun _ _ _ _ _ => pi_tup (pe_fld (pv 0) rfl)
    case he => exact fun _ _ _ _ _ => pe_lc (own := [("low", 9)]) (g := gName 9) (tt := tYes) rfl nd (pi_list (pv 7)) (blkOk_by (N := ["lines", "n", "pairs", "fours", "values", "at", "digits", "lows", "high", "low"]) (by kernel_rfl)) (fun _ _ _ _ _ => pg_name (i := 9) nd rfl (Or.inl rfl) (Or.inr rfl)) (fun _ _ _ _ _ => pts_nil) (fun _ _ _ _ _ => pe_call FC.ok (by exact hr.mono (by decide)) (by rfl) FC.m FC.k FC.b .nil pass0 (pa_cons (pv 9) (pa_cons (pv 8) pa_nil)))
    have hw := hB.width
    -- the pairs
    have rowsI : ∀ (i : Nat) (x : V), ([V.ref e, V.ref o] : List V)[i]? = some x → i < 2 ∧ ∃ y, x = .ref y ∧ ∀ Hc, Same H Hc → RowsAt K Hc y (L.rows i) := fun i x hx => by
      match i, hx with
      | 0, hx => cases hx; exact ⟨by decide, e, rfl, fun Hc s' => h3.same s'⟩
      | 1, hx => cases hx; exact ⟨by decide, o, rfl, fun Hc s' => h4.same s'⟩
      | (i + 2), hx => simp at hx
    refine ⟨_, rfl, l, C, dx, _, _, rfl, h1, T.cl, T.nh, lineF_h t st, t, rfl, ⟨_, h2⟩, fun D nD => ?_⟩
    refine lc_out (walk_tup (xs := [V.ref e, V.ref o])) (fun i Hk => Same H Hk ∧ ∃ xs : List Addr, Hk D = some (.lst (xs.map V.ref)) ∧ xs.length = 2 * i ∧ ∀ j (h : j < xs.length) (h' : j < (pairsOf L).length), RowsAt K (drop D Hk) xs[j] (pairsOf L)[j]) ⟨?_, [], by rw [upd_same]; rfl, rfl, fun j h => absurd h (by simp)⟩ (fun i Hk _ hP => same_tup hP.1 h2) ?_ ?_
    · intro y o' hy
      rw [upd_ne (by intro e; rw [e, nD] at hy; cases hy)]; exact hy
    · rintro i x Hk H' hi ⟨hs, xs, hD, hxl, hxr⟩ ⟨rfl, hx⟩
      obtain ⟨hi2, hiA, rfl, hhi⟩ := rowsI i x hx
      refine ⟨rfl, ?_⟩
      refine ⟨_, rfl, l, C, dx, _, _, rfl, hs _ _ h1, T.cl, T.nh, lineF_h t st, t, rfl, ⟨_, same_tup hs h2⟩, ?_⟩
      refine lc_out (walk_tup (xs := [V.ref e, V.ref o])) (fun l' Hk => Same H Hk ∧ ∃ xs : List Addr, Hk D = some (.lst (xs.map V.ref)) ∧ xs.length = 2 * i + l' ∧ ∀ j (h : j < xs.length) (h' : j < (pairsOf L).length), RowsAt K (drop D Hk) xs[j] (pairsOf L)[j]) ⟨hs, xs, hD, hxl, hxr⟩ (fun i Hk _ hP => same_tup hP.1 h2) ?_ ?_
      · rintro l' x' Hk2 H2 hl' ⟨hs2, xs2, hD2, hxl2, hxr2⟩ ⟨rfl, hx'⟩
        obtain ⟨hl2, loA, rfl, hlo⟩ := rowsI l' x' hx'
        refine ⟨rfl, ?_⟩
        obtain ⟨lxs, lq1, lq2, lq3⟩ := hlo H2 hs2
        refine ⟨_, rfl, loA, rfl, ⟨_, lq1⟩, fun D2 nD2 => ?_⟩
        have hDD : D2 ≠ D := by intro e; rw [e, hD2] at nD2; cases nD2
        refine lc_comb (L.rows l') (L.rows i) (hlo H2 hs2) nD2 (by rw [hB.ok.len]; omega) (fun j hj y Hc Q2 s2 hy cont => ?_) (fun H3 s3 hdr hrr => ?_)
        · exact ⟨rfl, _, rfl, _, rfl, y, hiA, (L.rows l')[j], L.rows i, a, a, L.starts.length, rfl, hy, hhi Hc (hs2.trans s2), (by rw [hB.ok.len]; exact hB.rowIn l' _ (List.getElem_mem hj)), hB.rowIn i, by omega, hB.a0, hB.a0, by have := hB.al; omega, cont⟩
        · refine ⟨_, s3 _ _ hD2, small1000 (by rw [List.length_map]; omega), fun y o' hy => ?_, xs2 ++ [D2], by rw [upd_same, List.map_append]; rfl, by rw [List.length_append, hxl2]; simp; omega, fun j h h' => ?_⟩
          · rw [upd_ne (by intro e; rw [e, nD] at hy; cases hy)]; exact s3 _ _ (hs2 _ _ hy)
          · rw [drop_upd]
            by_cases hj : j < xs2.length
            · rw [List.getElem_append_left hj]
              exact (hxr2 j hj h').same (drop_mono s3)
            · have hj2 : j = 2 * i + l' := by simp at h; omega
              have e1 : (xs2 ++ [D2])[j]'h = D2 := by rw [List.getElem_append_right (by omega)]; simp
              rw [e1, pairsOf_get]
              have e2 : pairOf L j = combAll (L.rows l') (L.rows i) := by
                unfold pairOf
                have a1 : j % 2 = l' := by omega
                have a2 : j / 2 = i := by omega
                rw [a1, a2]
              rw [e2]
              exact hdr D (by rw [hD2]; exact fun z => nomatch z)
      · rintro Hk2 ⟨hs2, xs2, hD2, hxl2, hxr2⟩
        exact ⟨hs2, xs2, hD2, hxl2, hxr2⟩
    · rintro Hk ⟨hs, xs, hD, hxl, hxr⟩
      have hP : ListsAt K Hk D (pairsOf L) := ⟨xs, SqL.of hD, hxl, fun i h h' => (hxr i h h').same (drop_same D Hk)⟩
      clear hxr hD hxl xs
      intro ff nff
      have nffH : H ff = none := hs.free nff
      have sF : Same Hk (upd Hk ff (.dK [])) := fun y o' hy => by rw [upd_ne (by intro e; rw [e, nff] at hy; cases hy)]; exact hy
      have q0 := hs.trans sF
      refine ⟨_, rfl, l, C, dx, _, _, rfl, q0 _ _ h1, T.cl, T.ns, lineF_s t st, ?_⟩
      have hbl := bits_lt n
      have hb1100 : Builtin.Int.intBits (n : Int) ≤ 1100 := PyProof.Rows.intBits_le (by rw [Int.natAbs_natCast]; exact hn)
      refine ⟨_, rfl, _, rfl, _, rfl, by have h60 : (1100 : Nat) < 2 ^ 60 := by decide
                                         omega, ?_⟩
      generalize Builtin.Int.intBits (n : Int) = m at hbl hb1100
      have hcnt : n < 2 ^ (4 * ((m + 3) / 4)) := Nat.lt_of_lt_of_le hbl (Nat.pow_le_pow_right (by decide) (by omega))
      have hcl : (m + 3) / 4 ≤ 276 := by omega
      generalize (m + 3) / 4 = cnt at hcnt hcl
      clear hbl hb1100
      have pairAt : ∀ (Hc : Hp) (p : Nat), Same Hk Hc → p < 4 → ∃ xs : List Addr, ∃ y, SqL K Hc D (xs.map V.ref) ∧ (xs.map V.ref)[p]? = some (.ref y) ∧ RowsAt K Hc y (pairOf L p) := fun Hc p s' hp => by
        obtain ⟨xs, a1, a2, a3⟩ := hP.same s'
        have hp2 : p < xs.length := by rw [a2]; exact hp
        refine ⟨xs, xs[p], a1, by rw [List.getElem?_map, List.getElem?_eq_getElem hp2]; rfl, ?_⟩
        have hp3 : p < (pairsOf L).length := hp
        have := a3 p hp2 hp3
        rw [pairsOf_get] at this
        exact this
      refine for_it walk_rangeC (fun i σ Hc => Same Hk Hc ∧ (∃ kvs : List (Key × V), Hc ff = some (.dK kvs) ∧ kvs.length ≤ i ∧ ∀ d : Nat, d < 16 → ∀ v, valV kvs (Sum.inl (d : Int)) = some v → ∃ x, v = .ref x ∧ RowsAt K (drop ff Hc) x (fourOf L d)) ∧
          ∃ (vv : Addr) (y5 y6 y7 y8 y9 : Option V), SqL K Hc vv ((vat L (n / 2 ^ (4 * (cnt - i)))).map V.int) ∧ σ = [some (.ref l), some (.int (n : Int)), some (.ref D), some (.ref ff), some (.ref vv), y5, y6, y7, y8, y9]) ?_ (fun _ _ _ _ _ => trivial) ?_ ?_
      · refine ⟨sF, ⟨[], upd_same, Nat.le_refl _, fun d _ v hv => by cases hv⟩, st, _, _, _, _, _, ?_, rfl⟩
        have e0 : n / 2 ^ (4 * (cnt - 0)) = 0 := Nat.div_eq_of_lt hcnt
        rw [e0, Halves.vat_zero]
        exact q0.seq h5
      · rintro i x σ Hc Hc' hi ⟨hsc, ⟨kvs, hf, hkl, hkv⟩, vv, y5, y6, y7, y8, y9, hv, rfl⟩ ⟨rfl, rfl⟩
        have eat : (4 * ((cnt : Int) - 1) + (i : Nat) * (-4) : Int) = ((4 * (cnt - (i + 1)) : Nat) : Int) := by omega
        show gName 5 (V.int (4 * ((cnt : Int) - 1) + (i : Nat) * (-4))) _ _ _
        rw [eat]
        have est : 4 * (cnt - i) = 4 * (cnt - (i + 1)) + 4 := by omega
        rw [est] at hv
        generalize hat : 4 * (cnt - (i + 1)) = at' at *
        refine ⟨_, rfl, _, rfl, _, _, rfl, rfl, _, 4, rfl, rfl, ?_⟩
        rw [cast_shr, cast_mod]
        have hd16 : n / 2 ^ at' % 2 ^ 4 < 16 := Nat.mod_lt _ (by decide)
        have ed16 : n / 2 ^ at' % 2 ^ 4 = n / 2 ^ at' % 16 := rfl
        have hstep := Halves.vat_fours hB.ok n at'
        rw [← ed16] at hstep
        generalize n / 2 ^ at' % 2 ^ 4 = d at hd16 hstep
        refine ⟨fun σ Hc => Same Hk Hc ∧ (∃ kvs : List (Key × V), Hc ff = some (.dK kvs) ∧ kvs.length ≤ i + 1 ∧ (∀ d : Nat, d < 16 → ∀ v, valV kvs (Sum.inl (d : Int)) = some v → ∃ x, v = .ref x ∧ RowsAt K (drop ff Hc) x (fourOf L d)) ∧ ∃ x, valV kvs (Sum.inl (d : Int)) = some (.ref x) ∧ RowsAt K (drop ff Hc) x (fourOf L d)) ∧
          ∃ (y5 y7 y8 y9 : Option V), SqL K Hc vv ((vat L (n / 2 ^ (at' + 4))).map V.int) ∧ σ = [some (.ref l), some (.int (n : Int)), some (.ref D), some (.ref ff), some (.ref vv), y5, some (.int (d : Int)), y7, y8, y9], ?_, ?_⟩
        · refine ⟨_, rfl, _, rfl, ff, _, rfl, DGet.k (k := Sum.inl (d : Int)) hf, _, rfl, ?_⟩
          cases ev : valV kvs (Sum.inl (d : Int)) with
          | some v =>
            obtain ⟨x, rfl, hx⟩ := hkv d hd16 v ev
            exact iteF ⟨hsc, ⟨kvs, hf, by omega, hkv, x, ev, hx⟩, _, _, _, _, hv, rfl⟩
          | none =>
            refine iteT ?_
            obtain ⟨xs, y, p1, p2, p3⟩ := pairAt Hc' (d % 2 ^ 2) hsc (Nat.mod_lt _ (by decide))
            obtain ⟨xs', y', p1', p2', p3'⟩ := pairAt Hc' (d / 2 ^ 2) hsc (by have : (2 : Nat) ^ 2 = 4 := by decide
                                                                              omega)
            obtain ⟨lxs, lq1, lq2, lq3⟩ := id p3
            have e4 : (d : Int) % 2 ^ 2 = ((d % 2 ^ 2 : Nat) : Int) := cast_mod d 2
            have e5 : (d : Int) / 2 ^ (2 : Int).toNat = ((d / 2 ^ 2 : Nat) : Int) := cast_shr d 2
            refine ⟨_, rfl, _, rfl, _, 2, rfl, rfl, D, _, _, .ref y, rfl, rfl, p1, by rw [e4]; exact atI_nat p2, y, rfl, ⟨_, lq1⟩, fun D2 nD2 => ?_⟩
            have hfD : ff ≠ D2 := by intro e; rw [← e, hf] at nD2; cases nD2
            refine lc_comb (pairOf L (d % 2 ^ 2)) (pairOf L (d / 2 ^ 2)) p3 nD2 (by rw [pair_len hB]; omega) (fun j hj z Hc2 Q2 s2 hz cont => ?_) (fun H3 s3 hdr hrr => ?_)
            · refine ⟨rfl, _, rfl, _, rfl, _, rfl, _, _, rfl, rfl, (by show (0 : Int) ≤ 2; decide), D, _, _, .ref y', rfl, rfl, s2.seq p1', by rw [e5]; exact atI_nat p2', z, y', (pairOf L (d % 2 ^ 2))[j], pairOf L (d / 2 ^ 2), a + a + c, a + a + c, L.starts.length, rfl, hz, p3'.same s2, ?_, pair_row hB _, by omega, by have := hB.a0; omega, by have := hB.a0; omega, by have := hB.al; have := hB.cl; omega, cont⟩
              rw [pair_len hB]; exact pair_row hB _ _ (List.getElem_mem hj)
            · have hf3 : H3 ff = some (.dK kvs) := s3 _ _ hf
              have e6 : fourOf L d = combAll (pairOf L (d % 2 ^ 2)) (pairOf L (d / 2 ^ 2)) := rfl
              refine ⟨_, rfl, _, rfl, ff, _, rfl, DPut.k (k := Sum.inl (d : Int)) hf3 (small1000 (by omega)), ?_⟩
              have nx := length_putK kvs (Sum.inl (d : Int)) (V.ref D2)
              have hnew : ∃ x, valV (putK kvs (Sum.inl (d : Int)) (V.ref D2)) (Sum.inl (d : Int)) = some (.ref x) ∧ RowsAt K (drop ff (upd H3 ff (.dK (putK kvs (Sum.inl (d : Int)) (V.ref D2))))) x (fourOf L d) := by
                refine ⟨D2, by rw [valV_put, if_pos rfl], ?_⟩
                rw [drop_upd, e6]
                exact hdr ff (by rw [hf]; exact fun z => nomatch z)
              refine ⟨fun b ob hb => ?_, ⟨_, upd_same, by omega, fun d' hd' v hv' => ?_, hnew⟩, _, _, _, _, ?_, rfl⟩
              · rw [upd_ne (by intro e; rw [e, nff] at hb; cases hb)]; exact s3 _ _ (hsc _ _ hb)
              · rw [valV_put] at hv'
                by_cases ed : (Sum.inl (d' : Int) : Key) = Sum.inl (d : Int)
                · have : d' = d := by injection ed with e; omega
                  subst this
                  obtain ⟨x, hx1, hx2⟩ := hnew
                  rw [valV_put, if_pos rfl] at hx1
                  rw [if_pos rfl] at hv'
                  rw [hx1] at hv'
                  injection hv' with hv'
                  exact ⟨x, hv'.symm, hx2⟩
                · rw [if_neg ed] at hv'
                  obtain ⟨x, rfl, hx⟩ := hkv d' hd' v hv'
                  refine ⟨x, rfl, ?_⟩
                  rw [drop_upd]
                  exact hx.same (drop_mono s3)
              · rcases (s3.seq hv) with (h | ⟨o', h⟩) | h
                · exact .inl (.inl (by rw [upd_ne (by intro e; rw [e, hf3] at h; cases h)]; exact h))
                · exact .inl (.inr ⟨o', by rw [upd_ne (by intro e; rw [e, hf3] at h; cases h)]; exact h⟩)
                · exact .inr h
        · rintro σ' Hc2 ⟨hs2, ⟨kvs2, hf2, hk2, he2, x, hx1, hx2⟩, y5, y7, y8, y9, hv2, rfl⟩
          have hrow := (hx2.same (drop_same ff Hc2))
          have hnat : n / 2 ^ (at' + 4) < 2 ^ 1100 := Nat.lt_of_le_of_lt (Nat.div_le_self _ _) hn
          have vl := Halves.vat_len hB.ok (n / 2 ^ (at' + 4))
          refine ⟨_, rfl, _, rfl, ff, _, rfl, .inl ⟨_, Sum.inl (d : Int), .inl hf2, rfl, hx1.symm⟩, _, rfl, x, vv, fourOf L d, vat L (n / 2 ^ (at' + 4)), 1000, 300000, rfl, hrow, hv2, by rw [four_len hB]; omega, fun r hr => ?_, vat_small hB hnat, by decide, by decide, by decide, fun H' p hs' hnp hp => ?_⟩
          · rw [vl]
            have q := four_row hB d r hr
            exact ⟨q.nd, q.lt, q.len, small_mono (by have := hB.al; have := hB.cl; omega) q.sm⟩
          · rw [← hstep] at hp
            refine ⟨_, rfl, p, vat L (n / 2 ^ at'), rfl, SqL.of hp, _, rfl, ?_⟩
            have hf4 : H' ff = some (.dK kvs2) := hs' _ _ hf2
            cases ha : (vat L (n / 2 ^ at')).any (· != 0) with
            | true =>
              refine iteF ⟨hs2.trans hs', ⟨kvs2, hf4, hk2, fun d' hd' v hv' => ?_⟩, p, _, _, _, _, _, SqL.of hp, rfl⟩
              obtain ⟨x', rfl, hx'⟩ := he2 d' hd' v hv'
              exact ⟨x', rfl, hx'.same (drop_mono hs')⟩
            | false =>
              refine iteT ⟨_, rfl, k H' p ((hs.trans hs2).trans hs') ?_⟩
              have hz : ∀ z, z ∈ vat L (n / 2 ^ at') → z = 0 := fun z hz => by
                have := List.any_eq_false.1 ha z hz
                simpa using this
              have hz2 := Halves.vat_zero_stays hB.ok n at' hz
              have e7 : vat L (n / 2 ^ at') = vat L n := Halves.zeros_eq (by rw [Halves.vat_len hB.ok, Halves.vat_len hB.ok]) hz hz2
              rw [← e7]; exact SqL.of hp
      · rintro σ Hc ⟨hsc, _, vv, y5, y6, y7, y8, y9, hv, rfl⟩
        rw [Nat.sub_self, Nat.mul_zero, Nat.pow_zero, Nat.div_one] at hv
        exact ⟨_, rfl, k _ vv (hs.trans hsc) hv⟩
end
end L2.EH
end S_L5
section S_L6
set_option maxRecDepth 100000
set_option maxHeartbeats 4000000
namespace L2.EH
open PySem PySem.Spec PyProof.Rows
open L2.Halves (has keys Clean sumOf stepped Small WLines WOk vat combInto combined nonzero addRow put combAll pairOf fourOf WRow)
theorem scAt : FnScope ["lines", "n", "length", "values", "at"] ["lines", "n"] (defScope sValuesAt) := ⟨rfl, rfl, rfl, by decide +kernel, rfl, by decide +kernel, by decide +kernel⟩
section
variable {P : Program} {w : World} {K : PySem.W.Frag} {mg : Str → Option Value} {base : Heap}
theorem ok_at {C f fN fF : Addr} {fd fdN fdF : FuncData} {tM : Tok} (F : Fun K "values_at" "values_at" sValuesAt f fd) (T : LinesC K C) (B : Nm7 mg) (hM : mg "MANY_DIGITS" = some (.int 30 tM)) (FN : Fn' P w K mg base 3 "next_values" fN fdN ["lines", "values", "digit"] (spNext K C))
    (FF : Fn' P w K mg base 3 "values_far_out" fF fdF ["lines", "n"] (spFar K C)) : FnOk P w K mg base CX0 4 f fd ["lines", "n"] (spFar K C) := by
  refine F.ok scAt (fun vs H Q E h => ?_) (fun cdv A outer s H vs Q E hr h => ?_)
  · obtain ⟨l, L, n, a, b, c, rfl, _⟩ := h
    rfl
  · obtain ⟨l, L, n, a, b, c, rfl, hl, hB, hn, k⟩ := h
    have hu := hu_of hr
    have nd := scAt.nd
    obtain ⟨dx, t, e, o, st, h1, h2, h3, h4, h5⟩ := hl.ex
    have hw := hB.width
    refine ⟨_, pss_cons (ps_set (i := 2) nd rfl (Or.inl rfl) (pe_bits (pv 1)))
      (pss_cons (ps_if (pt_cmpR op_ge (pv 2) (pe_op op_mul (pe_glob (v := .int 30) rfl hM ⟨_, rfl⟩) (pe_callB call_len_seq (by rfl) B.len boot_len (pa_cons (pe_fld (pv 0) rfl) pa_nil))) (nomark _))
        (pss_one (ps_ret (pe_call FF.ok hr rfl FF.m FF.k FF.b .nil pass0 (pa_cons (pv 0) (pa_cons (pv 1) pa_nil))))) pss_nil)
      (pss_cons (ps_set (i := 3) nd rfl (Or.inl rfl) (pe_fld (pv 0) rfl))
      (pss_cons (ps_for PassesOwn.never rfl (pi_revR rfl B.reversed (prg_1 rfl B.range (pv 2))) (pg_name (i := 4) nd rfl (Or.inl rfl))
        (pss_cons (ps_set (i := 3) nd rfl (Or.inl rfl) (pe_call FN.ok hr rfl FN.m FN.k FN.b .nil pass0 (pa_cons (pv 0) (pa_cons (pv 3) (pa_cons (pe_op op_andM (pe_op op_shrN (pv 1) (pv 4)) pe_int) pa_nil)))))
        (pss_one (ps_if (pt_not (pt_val (pe_callB (cr_anyI rfl) (by rfl) B.any (by decide +kernel) (pa_cons (pv 3) pa_nil)))) (pss_one ps_break) pss_nil))))
      (pss_one (ps_ret (pv 3)))))), ?_⟩
    have hbl := bits_lt n
    have hb1100 : Builtin.Int.intBits (n : Int) ≤ 1100 := PyProof.Rows.intBits_le (by rw [Int.natAbs_natCast]; exact hn)
    refine ⟨_, rfl, _, rfl, ?_⟩
    show tSeq _ _ _ [some (.ref l), some (.int (n : Int)), some (.int ((Builtin.Int.intBits (n : Int) : Nat) : Int)), none, none] H
    generalize Builtin.Int.intBits (n : Int) = m at hbl hb1100
    refine ⟨_, rfl, _, rfl, l, C, dx, _, _, rfl, h1, T.cl, T.ns, lineF_s t st, st, _, rfl, .inl h5, _, _, rfl, rfl, .inl ⟨by decide, by decide⟩, _, _, rfl, rfl, _, rfl, ite2 (fun _ => ?_) fun _ => ?_⟩
    · exact ⟨_, rfl, _, rfl, l, L, n, a, b, c, rfl, hl, hB, hn, k⟩
    · refine ⟨_, rfl, l, C, dx, _, _, rfl, h1, T.cl, T.ns, lineF_s t st, _, rfl, _, rfl, by decide, by decide, by omega, by omega, ?_⟩
      have e0 : (((m : Int) - 0).toNat : Nat) = m := by omega
      refine for_it walk_rangeC (fun i σ Hc => Same H Hc ∧ ∃ (vv : Addr) (y4 : Option V), SqL K Hc vv ((vat L (n / 2 ^ (m - i))).map V.int) ∧ σ = [some (.ref l), some (.int (n : Int)), some (.int (m : Int)), some (.ref vv), y4]) ⟨Same.refl H, st, _, ?_, rfl⟩ (fun _ _ _ _ _ => trivial) ?_ ?_
      · have e1 : n / 2 ^ (m - 0) = 0 := Nat.div_eq_of_lt hbl
        rw [e1, Halves.vat_zero]; exact h5
      · rintro i x σ Hc Hc' hi ⟨hsc, vv, y4, hv, rfl⟩ ⟨rfl, rfl⟩
        have him : i < m := by omega
        have eat : (0 + (((m : Int) - 0).toNat : Int) - 1 + (i : Nat) * (-1) : Int) = ((m - (i + 1) : Nat) : Int) := by omega
        show gName 4 (V.int (0 + (((m : Int) - 0).toNat : Int) - 1 + (i : Nat) * (-1))) _ _ _
        rw [eat]
        have est : m - i = m - (i + 1) + 1 := by omega
        rw [est] at hv
        generalize hat : m - (i + 1) = at' at *
        have hnat : n / 2 ^ (at' + 1) < 2 ^ 1100 := Nat.lt_of_le_of_lt (Nat.div_le_self _ _) hn
        have vl := Halves.vat_len hB.ok (n / 2 ^ (at' + 1))
        have hd2 : n / 2 ^ at' % 2 ^ 1 < 2 := Nat.mod_lt _ (by decide)
        have hstep := Halves.vat_half hB.ok n at'
        have ed : n / 2 ^ at' % 2 ^ 1 = n / 2 ^ at' % 2 := rfl
        rw [← ed] at hstep
        refine ⟨_, rfl, _, rfl, _, rfl, _, rfl, _, _, rfl, rfl, _, 1, rfl, rfl, ?_⟩
        rw [cast_shr, cast_mod]
        refine ⟨l, vv, L, n / 2 ^ at' % 2 ^ 1, vat L (n / 2 ^ (at' + 1)), 1000, 300000, rfl, hl.same hsc, hv, hd2, by rw [hB.ok.len]; omega, fun r hr => ?_, vat_small hB hnat, by decide, by decide, by decide, fun H' p hs' hnp hp => ?_⟩
        · rw [vl]
          have q := hB.rowIn _ r hr
          exact ⟨q.nd, q.lt, q.len, small_mono (by have := hB.al; omega) q.sm⟩
        · rw [← hstep] at hp
          refine ⟨_, rfl, p, vat L (n / 2 ^ at'), rfl, SqL.of hp, _, rfl, ?_⟩
          cases ha : (vat L (n / 2 ^ at')).any (· != 0) with
          | true => exact iteF ⟨hsc.trans hs', p, _, SqL.of hp, rfl⟩
          | false =>
            refine iteT ⟨_, rfl, k H' p (hsc.trans hs') ?_⟩
            have hz : ∀ z, z ∈ vat L (n / 2 ^ at') → z = 0 := fun z hz => by
              have := List.any_eq_false.1 ha z hz
              simpa using this
            have hz2 := Halves.vat_zero_stays hB.ok n at' hz
            have e7 : vat L (n / 2 ^ at') = vat L n := Halves.zeros_eq (by rw [Halves.vat_len hB.ok, Halves.vat_len hB.ok]) hz hz2
            rw [← e7]; exact SqL.of hp
      · rintro σ Hc ⟨hsc, vv, y4, hv, rfl⟩
        have e2 : m - ((m : Int) - 0).toNat = 0 := by omega
        rw [e2, Nat.pow_zero, Nat.div_one] at hv
        exact ⟨_, rfl, k _ vv hsc hv⟩
end
end L2.EH
end S_L6
section S_L7
set_option maxRecDepth 100000
set_option maxHeartbeats 4000000
namespace L2.EH
open PySem PySem.Spec PyProof.Rows
open L2.Halves (has keys Clean sumOf stepped Small WLines WOk vat combined fraction Fracs PartM fracAt filledW)
/-! ### data stays -/
mutual
theorem dp_same {K : PySem.W.Frag} {H H' : Hp} (s : Same H H') : ∀ {v : V} {d : PyData}, Dp K H v d → Dp K H' v d
  | _, _, .non => .non
  | _, _, .bl b => .bl b
  | _, _, .int i => .int i
  | _, _, .str x => .str x
  | _, _, .lst h r => .lst (s.seq h) (dpAll_same s r)
  | _, _, .tup h r => .tup (same_tup s h) (dpAll_same s r)
theorem dpAll_same {K : PySem.W.Frag} {H H' : Hp} (s : Same H H') : ∀ {vs : List V} {ds : List PyData}, DpAll K H vs ds → DpAll K H' vs ds
  | _, _, .nil => .nil
  | _, _, .cons h r => .cons (dp_same s h) (dpAll_same s r)
end
theorem dpAll_snoc {K : PySem.W.Frag} {H : Hp} {v : V} {d : PyData} (hv : Dp K H v d) : ∀ {vs : List V} {ds : List PyData}, DpAll K H vs ds → DpAll K H (vs ++ [v]) (ds ++ [d])
  | _, _, .nil => .cons hv .nil
  | _, _, .cons h r => .cons h (dpAll_snoc hv r)
def pairD (p : Int × Int) : PyData := .tuple [.int p.1, .int p.2]
theorem pair_dp {K : PySem.W.Frag} {H : Hp} {t : Addr} {p : Int × Int} (h : SqT K H t [.int p.1, .int p.2]) : Dp K H (.ref t) (pairD p) := .tup h (.cons (.int _) (.cons (.int _) .nil))
/-! ### exact division -/
def CDivE (i j : Int) : Prop := j ≠ 0 ∧ j.natAbs.log2 < 9000 ∧ j ∣ i
theorem op_fdivE {X : Cx} : OpR X (binaryOp .FloorDiv) (rI CDivE fun i j => .int (i / j)) := opI fun i j _ _ _ _ _ hc q =>
  floordiv_int hc.1 (by rw [Int.fdiv_eq_ediv_of_dvd hc.2.2]; exact q) (.inl (PyProof.noPylong_of_log2 hc.2.1))
def spFraction : Sp := fun vs H Q _ => ∃ (top bot : Int), vs = [.int top, .int bot] ∧ bot ≠ 0 ∧ bot.natAbs < 2 ^ 9000 ∧ ∀ H' p, Same H H' → H p = none → H' p = some (.tup [.int (fraction top bot).1, .int (fraction top bot).2]) → Q (.ref p) H'
theorem scFraction : FnScope ["top", "bottom", "common"] ["top", "bottom"] (defScope sFraction) := ⟨rfl, rfl, rfl, by decide +kernel, rfl, by decide +kernel, by decide +kernel⟩
section
variable {P : Program} {w : World} {K : PySem.W.Frag} {mg : Str → Option Value} {base : Heap}
theorem same_new {H : Hp} {p : Addr} {o : HO} (h : H p = none) : Same H (upd H p o) := fun b q e => by
  rw [upd_ne (by intro z; rw [z, h] at e; cases e)]; exact e
theorem ok_fraction {f : Addr} {fd : FuncData} (F : Fun K "fraction" "fraction" sFraction f fd) (B : Nm3 mg) : FnOk P w K mg base CX0 1 f fd ["top", "bottom"] spFraction := by
  refine F.ok scFraction (fun vs H Q E h => ?_) (fun cdv A outer s H vs Q E hr h => ?_)
  · obtain ⟨top, bot, rfl, _⟩ := h
    rfl
  · obtain ⟨top, bot, rfl, h0, h9, k⟩ := h
    have nd := scFraction.nd
    refine ⟨_, pss_cons (ps_set (i := 2) nd rfl (Or.inl rfl) (pe_callBfun cr_gcd (by rfl) B.gcd (pa_cons (pv 0) (pa_cons (pv 1) pa_nil))))
      (pss_cons (ps_if (pt_cmpR op_lt (pv 1) pe_int (nomark _)) (pss_one (ps_set (i := 2) nd rfl (Or.inl rfl) (pe_un un_neg (pv 2)))) pss_nil)
      (pss_one (ps_ret (pe_tup (pa_cons (pe_op op_fdivE (pv 0) (pv 2)) (pa_cons (pe_op op_fdivE (pv 1) (pv 2)) pa_nil)))))), ?_⟩
    have hg0 : Int.gcd top bot ≠ 0 := by intro h; rw [Int.gcd_eq_zero_iff] at h; exact h0 h.2
    have d1 : ((Int.gcd top bot : Nat) : Int) ∣ top := Int.gcd_dvd_left ..
    have d2 : ((Int.gcd top bot : Nat) : Int) ∣ bot := Int.gcd_dvd_right ..
    have hlt : Int.gcd top bot < 2 ^ 9000 := Nat.lt_of_le_of_lt (Nat.le_of_dvd (by omega) (by have := Int.natAbs_dvd_natAbs.2 d2; simpa using this)) h9
    have hlog : (Int.gcd top bot).log2 < 9000 := PySem.Flt.log2_lt_of (k := 9000) (by decide) hlt
    have fin : ∀ c : Int, (c = Int.gcd top bot ∨ c = -(Int.gcd top bot : Int)) → fraction top bot = (top / c, bot / c) → tRet (tTup (tCons (tOp (rI CDivE fun i j => V.int (i / j)) (tVar 0) (tVar 2)) (tCons (tOp (rI CDivE fun i j => V.int (i / j)) (tVar 1) (tVar 2)) tNil))) { nx := fun x H' => Q V.non H', rt := Q } [some (.int top), some (.int bot), some (.int c)] H := fun c hc e => by
      have c0 : c ≠ 0 := by rcases hc with h | h <;> omega
      have cl : c.natAbs.log2 < 9000 := by rcases hc with h | h <;> (rw [h]; simpa using hlog)
      have c1 : c ∣ top := by rcases hc with h | h <;> (rw [h]; first | exact d1 | exact (Int.neg_dvd).2 d1)
      have c2 : c ∣ bot := by rcases hc with h | h <;> (rw [h]; first | exact d2 | exact (Int.neg_dvd).2 d2)
      refine ⟨_, rfl, _, rfl, _, _, rfl, rfl, ⟨c0, cl, c1⟩, _, rfl, _, rfl, _, _, rfl, rfl, ⟨c0, cl, c2⟩, by show 2 ≤ sizeLine; decide, fun p np => ?_⟩
      exact k _ p (same_new np) np (by rw [upd_same, e])
    refine ⟨_, rfl, _, rfl, _, _, rfl, ?_⟩
    refine ⟨_, rfl, _, _, rfl, rfl, _, rfl, ite2 (fun h => ?_) fun h => ?_⟩
    · refine ⟨_, rfl, _, rfl, ?_⟩
      exact fin _ (.inr rfl) (by simp only [fraction]; rw [if_pos (by simpa using h)]; rfl)
    · exact fin _ (.inl rfl) (by simp only [fraction]; rw [if_neg (by simpa using h)]; rfl)
end
end L2.EH
end S_L7
section S_L8
set_option maxRecDepth 100000
set_option maxHeartbeats 4000000
namespace L2.EH
open PySem PySem.Spec PyProof.Rows
open L2.Halves (has keys Clean sumOf stepped Small WLines WOk vat combined fraction Fracs PartM fracAt filledW)
/-- fractions by index, as a dict -/
def fracK (f : Fracs) (ts : List Addr) : List (Key × V) := List.zipWith (fun p t => ((Sum.inl (p.1 : Int) : Key), V.ref t)) f ts
def FracD (K : PySem.W.Frag) (H : Hp) (a : Addr) (f : Fracs) : Prop := ∃ ts : List Addr, H a = some (.dK (fracK f ts)) ∧ ts.length = f.length ∧ ∀ i (h : i < ts.length) (h' : i < f.length), H ts[i] = some (.tup [.int f[i].2.1, .int f[i].2.2])
theorem FracD.same {K : PySem.W.Frag} {H H' : Hp} {a : Addr} {f : Fracs} (h : FracD K H a f) (s : Same H H') : FracD K H' a f := by
  obtain ⟨ts, h1, h2, h3⟩ := h
  exact ⟨ts, s _ _ h1, h2, fun i p q => s _ _ (h3 i p q)⟩
theorem fracK_val : ∀ (f : Fracs) (ts : List Addr), ts.length = f.length → ∀ i : Nat,
    (valV (fracK f ts) (Sum.inl (i : Int)) = none ∧ f.find? (fun p => p.1 == i) = none) ∨
    (∃ j, ∃ (h : j < ts.length) (h' : j < f.length), valV (fracK f ts) (Sum.inl (i : Int)) = some (.ref ts[j]) ∧ f.find? (fun p => p.1 == i) = some f[j])
  | [], [], _, i => .inl ⟨rfl, rfl⟩
  | [], _ :: _, h, _ => by simp at h
  | _ :: _, [], h, _ => by simp at h
  | p :: f, t :: ts, h, i => by
    have ih := fracK_val f ts (by simpa using h) i
    have e0 : fracK (p :: f) (t :: ts) = (Sum.inl (p.1 : Int), V.ref t) :: fracK f ts := rfl
    rw [e0, valV_cons]
    by_cases e : p.1 = i
    · refine .inr ⟨0, by simp, by simp, ?_, ?_⟩
      · rw [if_pos (by rw [e])]; rfl
      · simp [e]
    · have e1 : ¬ (Sum.inl (p.1 : Int) : Key) = Sum.inl (i : Int) := fun h => e (by injection h with h; omega)
      have e2 : (p.1 == i) = false := by simpa using e
      rw [if_neg e1, List.find?_cons, e2]
      rcases ih with ⟨a, b⟩ | ⟨j, hj, hj', a, b⟩
      · exact .inl ⟨a, b⟩
      · exact .inr ⟨j + 1, by simp; omega, by simp; omega, by simpa using a, by simpa using b⟩
theorem fracK_length (f : Fracs) (ts : List Addr) (h : ts.length = f.length) : (fracK f ts).length = f.length := by simp [fracK, h]
theorem fracK_snoc (f : Fracs) (ts : List Addr) (h : ts.length = f.length) (p : Nat × (Int × Int)) (t : Addr) : fracK (f ++ [p]) (ts ++ [t]) = fracK f ts ++ [(Sum.inl (p.1 : Int), V.ref t)] := by
  unfold fracK
  rw [List.zipWith_append h.symm]; rfl
theorem fracK_new (f : Fracs) (ts : List Addr) (h : ts.length = f.length) (i : Nat) (hn : ∀ p, p ∈ f → p.1 ≠ i) : valV (fracK f ts) (Sum.inl (i : Int)) = none := by
  rcases fracK_val f ts h i with ⟨a, _⟩ | ⟨j, hj, hj', _, b⟩
  · exact a
  · have := List.find?_some b
    have m := List.mem_of_find?_eq_some b
    exact absurd (by simpa using this) (hn _ m)
/-- the first i of a combination -/
def combUp (rest : Halves.Row) (w many i : Nat) : Fracs := ((List.range i).filter (fun i => has rest (w + i))).map (fun i => (i, fraction (-(Halves.get rest (w + i))) (Halves.get rest (w + many))))
theorem combUp_succ (rest : Halves.Row) (w many i : Nat) : combUp rest w many (i + 1) = combUp rest w many i ++ (if has rest (w + i) = true then [(i, fraction (-(Halves.get rest (w + i))) (Halves.get rest (w + many)))] else []) := by
  unfold combUp
  rw [List.range_succ, List.filter_append, List.map_append]
  by_cases h : has rest (w + i) = true <;> simp [h]
theorem combUp_lt (rest : Halves.Row) (w many i : Nat) : ∀ p, p ∈ combUp rest w many i → p.1 < i := fun p hp => by
  obtain ⟨q, hq, rfl⟩ := List.mem_map.1 hp
  simpa using (List.mem_filter.1 hq).1
theorem combUp_len (rest : Halves.Row) (w many i : Nat) : (combUp rest w many i).length ≤ i := by
  unfold combUp
  rw [List.length_map]
  exact Nat.le_trans (List.length_filter_le ..) (by simp)
def spComb (K : PySem.W.Frag) : Sp := fun vs H Q _ => ∃ (a : Addr) (r : Halves.Row) (w many : Nat), vs = [.ref a, .int (w : Int), .int (many : Int)] ∧ H a = some (.dK (rowK r)) ∧ has r (w + many) = true ∧ Halves.get r (w + many) ≠ 0 ∧ (Halves.get r (w + many)).natAbs < 2 ^ 9000 ∧ many ≤ 900 ∧
  ∀ H' p, Same H H' → H p = none → FracD K H' p (Halves.combination r w many) → Q (.ref p) H'
theorem scComb : FnScope ["rest", "width", "many", "own", "at"] ["rest", "width", "many"] (defScope sCombination) := ⟨rfl, rfl, rfl, by decide +kernel, rfl, by decide +kernel, by decide +kernel⟩
section
variable {P : Program} {w : World} {K : PySem.W.Frag} {mg : Str → Option Value} {base : Heap}
theorem row_dget {H : Hp} {a : Addr} {r : Halves.Row} {i : Nat} (ha : H a = some (.dK (rowK r))) (h : has r i = true) : DGet H a (.int (i : Int)) (some (.int (Halves.get r i))) :=
  .inl ⟨_, Sum.inl (i : Int), .inl ha, rfl, by rw [valV_rowK, if_pos h]⟩
theorem ok_comb {f fF : Addr} {fd fdF : FuncData} (F : Fun K "combination" "combination" sCombination f fd) (B : Nm7 mg) (FF : Fn' P w K mg base 1 "fraction" fF fdF ["top", "bottom"] spFraction) :
    FnOk P w K mg base CX0 2 f fd ["rest", "width", "many"] (spComb K) := by
  refine F.ok scComb (fun vs H Q E h => ?_) (fun cdv A outer s H vs Q E hr h => ?_)
  · obtain ⟨a, r, w, many, rfl, _⟩ := h
    rfl
  · obtain ⟨a, r, w, many, rfl, ha, hown, h0, h9, hm, k⟩ := h
    have hu := hu_of hr
    have nd := scComb.nd
    refine ⟨_, pss_cons (ps_set (i := 3) nd rfl (Or.inr rfl) (pe_dget hu (pv 0) (pe_op op_add (pv 1) (pv 2)) (fun _ _ => rfl)))
      (pss_one (ps_ret (pe_dc (own := [("at", 4)]) (g := gName 4) (tv := tCall spFraction [] E0 (tCons (tUn (fun x H Q => ∃ i, x = .int i ∧ Q (.int (-i)) H) (tDGet (tVar 0) (tOp (rI0 fun i j => .int (i + j)) (tVar 1) (tVar 4)))) (tCons (tVar 3) tNil))) rfl nd (pi_range1 (by rfl) B.range (pa_cons (pv 2) pa_nil)) (blkOk_by (N := ["rest", "width", "many", "own", "at"]) (sc := defScope sCombination) (by decide +kernel))
        (fun _ _ _ _ _ => pg_name (i := 4) nd rfl (Or.inl rfl) (Or.inr rfl)) (fun _ _ _ _ _ => pts_one (pt_cmp (pc_din (by exact hu) (pe_op op_add (pv 1) (pv 4)) (pv 0)))) (fun _ _ _ _ _ => pv 4)
        (fun _ _ _ _ _ => pe_call FF.ok (by exact hr) (by rfl) FF.m FF.k FF.b .nil pass0 (pa_cons (pe_un un_neg (pe_dget (by exact hu) (pv 0) (pe_op op_add (pv 1) (pv 4)) (fun _ _ => rfl))) (pa_cons (pv 3) pa_nil)))))), ?_⟩
    refine ⟨_, rfl, _, rfl, _, rfl, _, _, rfl, rfl, a, _, rfl, row_dget (i := w + many) ha hown, ?_⟩
    refine ⟨_, rfl, (many : Int), rfl, by omega, by omega, fun D nD => ?_⟩
    have emany : (((many : Int)).toNat) = many := by omega
    refine lc_out walk_range (fun i Hc => Same H Hc ∧ ∃ ts : List Addr, Hc D = some (.dK (fracK (combUp r w many i) ts)) ∧ ts.length = (combUp r w many i).length ∧ ∀ j (h : j < ts.length) (h' : j < (combUp r w many i).length), Hc ts[j] = some (.tup [.int (combUp r w many i)[j].2.1, .int (combUp r w many i)[j].2.2]) ∧ ts[j] ≠ D) ⟨same_new nD, [], by rw [upd_same]; rfl, rfl, fun j h => absurd h (by simp)⟩ (fun _ _ _ _ => trivial) ?_ ?_
    · rintro i x Hc H' hi ⟨hs, ts, hD, hl, ht⟩ ⟨rfl, rfl⟩
      have him : i < many := by omega
      have eI : ((0 : Int) + (i : Nat)) = (i : Int) := by omega
      have ha' := hs _ _ ha
      show gName 4 (V.int (0 + (i : Nat))) _ _ _
      rw [eI]
      refine ⟨rfl, ?_⟩
      refine ⟨_, rfl, _, rfl, _, _, rfl, rfl, _, rfl, a, _, rfl, DGet.k (k := Sum.inl ((w + i : Nat) : Int)) ha', ?_⟩
      rw [valV_rowK]
      by_cases hh : has r (w + i) = true
      · rw [if_pos hh]
        refine ⟨_, rfl, iteT ⟨_, rfl, _, rfl, _, rfl, _, rfl, _, _, rfl, rfl, a, _, rfl, row_dget (i := w + i) ha' hh, _, rfl, _, rfl, _, _, rfl, h0, h9, fun H2 p s2 np hp => ?_⟩⟩
        have hD2 := s2 _ _ hD
        refine ⟨_, Sum.inl (i : Int), rfl, hD2, ?_, ?_⟩
        · rw [fracK_length _ _ hl]
          have := combUp_len r w many i
          exact small1000 (by omega)
        · rw [L2.putK_new _ (fracK_new _ _ hl i (fun p hp => by have := combUp_lt r w many i p hp; omega))]
          have eC := combUp_succ r w many i
          rw [if_pos hh] at eC
          have hpD : p ≠ D := by intro e; rw [e, hD] at np; cases np
          refine ⟨fun b o e => ?_, ts ++ [p], ?_, ?_, fun j h h' => ?_⟩
          · rw [upd_ne (by intro z; rw [z, nD] at e; cases e)]; exact s2 _ _ (hs _ _ e)
          · rw [upd_same, eC, fracK_snoc _ _ hl]
          · rw [eC, List.length_append, List.length_append, hl]; rfl
          · by_cases hj : j < ts.length
            · have hj' : j < (combUp r w many i).length := by omega
              have e1 : (ts ++ [p])[j]'h = ts[j] := List.getElem_append_left hj
              have e2 : (combUp r w many (i + 1))[j]'h' = (combUp r w many i)[j] := by
                simp only [eC]; exact List.getElem_append_left hj'
              rw [e1, e2]
              obtain ⟨q1, q2⟩ := ht j hj hj'
              exact ⟨by rw [upd_ne q2]; exact s2 _ _ q1, q2⟩
            · have hj2 : j = ts.length := by simp at h; omega
              subst hj2
              have e1 : (ts ++ [p])[ts.length]'h = p := by rw [List.getElem_append_right (by omega)]; simp
              have e2 : (combUp r w many (i + 1))[ts.length]'h' = (i, fraction (-(Halves.get r (w + i))) (Halves.get r (w + many))) := by
                simp only [eC, hl]
                rw [List.getElem_append_right (by omega)]; simp
              rw [e1, e2]
              exact ⟨by rw [upd_ne hpD]; exact hp, hpD⟩
      · rw [if_neg hh]
        have eC := combUp_succ r w many i
        rw [if_neg hh, List.append_nil] at eC
        refine ⟨_, rfl, iteF ?_⟩
        rw [eC]
        exact ⟨hs, ts, hD, hl, ht⟩
    · rintro Hc ⟨hs, ts, hD, hl, ht⟩
      rw [emany] at hD hl ht
      exact k Hc D hs nD ⟨ts, hD, hl, fun j h h' => (ht j h h').1⟩
/-! ### filled -/
def spFilled (K : PySem.W.Frag) : Sp := fun vs H Q _ => ∃ (a : Addr) (f : Fracs) (many : Nat), vs = [.ref a, .int (many : Int)] ∧ FracD K H a f ∧ many ≤ 900 ∧
  ∀ H' p, Same H H' → H p = none → Dp K H' (.ref p) (.tuple ((filledW f many).map pairD)) → Q (.ref p) H'
theorem scFilled : FnScope ["fractions", "many", "at"] ["fractions", "many"] (defScope sFilled) := ⟨rfl, rfl, rfl, by decide +kernel, rfl, by decide +kernel, by decide +kernel⟩
structure Nm8 (mg : Str → Option Value) : Prop where
  tuple : mg "tuple" = none
theorem ok_filled {f : Addr} {fd : FuncData} (F : Fun K "filled" "filled" sFilled f fd) (B : Nm7 mg) (B8 : Nm8 mg) : FnOk P w K mg base CX0 1 f fd ["fractions", "many"] (spFilled K) := by
  refine F.ok scFilled (fun vs H Q E h => ?_) (fun cdv A outer s H vs Q E hr h => ?_)
  · obtain ⟨a, f, many, rfl, _⟩ := h
    rfl
  · obtain ⟨a, f, many, rfl, ⟨ts, ha, hl, ht⟩, hm, k⟩ := h
    have hu := hu_of hr
    have nd := scFilled.nd
    refine ⟨_, pss_one (ps_ret (pe_callTy call_tuple_of (by rfl) B8.tuple (by decide +kernel) (pa_cons (pe_lc (own := [("at", 2)]) (g := gName 2) (tt := tYes) rfl nd (pi_range1 (by rfl) B.range (pa_cons (pv 1) pa_nil)) (blkOk_by (N := ["fractions", "many", "at"]) (sc := defScope sFilled) (by decide +kernel))
      (fun _ _ _ _ _ => pg_name (i := 2) nd rfl (Or.inl rfl) (Or.inr rfl)) (fun _ _ _ _ _ => pts_nil)
      (fun _ _ _ _ _ => pe_dget2 (by exact hu) (pv 0) (pv 2) (pe_tup (pa_cons pe_int (pa_cons pe_int pa_nil))) ⟨rfl, rfl, rfl, rfl⟩)) pa_nil))), ?_⟩
    refine ⟨_, rfl, (many : Int), rfl, by omega, by omega, fun D nD => ?_⟩
    have emany : (((many : Int)).toNat) = many := by omega
    refine lc_out walk_range (fun i Hc => Same H Hc ∧ ∃ vs : List V, Hc D = some (.lst vs) ∧ vs.length = i ∧ DpAll K (drop D Hc) vs ((filledW f i).map pairD)) ⟨same_new nD, [], by rw [upd_same], rfl, .nil⟩ (fun _ _ _ _ => trivial) ?_ ?_
    · rintro i x Hc H' hi ⟨hs, vs, hD, hvl, hv⟩ ⟨rfl, rfl⟩
      have him : i < many := by omega
      have eI : ((0 : Int) + (i : Nat)) = (i : Int) := by omega
      have ha' := hs _ _ ha
      show gName 2 (V.int (0 + (i : Nat))) _ _ _
      rw [eI]
      refine ⟨rfl, ?_⟩
      have eF : filledW f (i + 1) = filledW f i ++ [fracAt f i] := by
        unfold filledW
        rw [List.range_succ, List.map_append]; rfl
      refine ⟨_, rfl, a, rfl, .inl ⟨_, .inl ha'⟩, _, rfl, by show 2 ≤ sizeLine; decide, fun t nt => ?_⟩
      have st := same_new (o := .tup [.int 0, .int 1]) nt
      have hDt : D ≠ t := by intro e; rw [← e, hD] at nt; cases nt
      refine ⟨_, DGet.k (k := Sum.inl (i : Int)) (st _ _ ha'), _, st _ _ hD, small1000 (by omega), fun b o e => ?_, vs ++ [_], by rw [upd_same], by simp [hvl], ?_⟩
      · rw [upd_ne (by intro z; rw [z, nD] at e; cases e)]; exact st _ _ (hs _ _ e)
      · rw [eF, List.map_append, drop_upd]
        refine dpAll_snoc ?_ (dpAll_same (drop_mono st) hv)
        rcases fracK_val f ts hl i with ⟨e1, e2⟩ | ⟨j, hj, hj', e1, e2⟩
        · rw [e1]
          have : fracAt f i = (0, 1) := by unfold fracAt; rw [e2]; rfl
          rw [this]
          refine pair_dp (p := (0, 1)) (SqT.of ?_)
          rw [drop_ne (Ne.symm hDt), upd_same]
        · rw [e1]
          have : fracAt f i = f[j].2 := by unfold fracAt; rw [e2]; rfl
          rw [this]
          refine pair_dp (SqT.of ?_)
          have hne : ts[j] ≠ D := by intro e; have := ht j hj hj'; rw [e, nD] at this; cases this
          rw [drop_ne hne]
          exact st _ _ (hs _ _ (ht j hj hj'))
    · rintro Hc ⟨hs, vs, hD, hvl, hv⟩
      rw [emany] at hv
      refine ⟨D, vs, rfl, .inl ⟨SqL.of hD, fun T nT => ?_⟩⟩
      refine k _ T (hs.trans (same_new nT)) (hs.free nT) ?_
      exact .tup (SqT.of upd_same) (dpAll_same ((drop_same D Hc).trans (same_new nT)) hv)
/-! ### half_part -/
def PartAt (K : PySem.W.Frag) (H : Hp) (v : V) (p : PartM) : Prop := ∃ t m : Addr, v = .ref t ∧ SqT K H t [.int (p.1 : Int), .int (p.2.1 : Int), .ref m] ∧ H m = some (.dK (rowK p.2.2))
theorem PartAt.same {K : PySem.W.Frag} {H H' : Hp} {v : V} {p : PartM} (h : PartAt K H v p) (s : Same H H') : PartAt K H' v p := by
  obtain ⟨t, m, h1, h2, h3⟩ := h
  exact ⟨t, m, h1, same_tup s h2, s _ _ h3⟩
def spHalfPart (K : PySem.W.Frag) (C : Addr) : Sp := fun vs H Q _ => ∃ (l : Addr) (x : V) (L : WLines) (p : PartM) (d n m w : Nat), vs = [.ref l, x, .int (d : Int)] ∧ LinesAt K C H l L ∧ PartAt K H x p ∧ d < 2 ∧ p.1 ≤ 1000000 ∧ RowIn n (L.rows d).length p.2.2 ∧ (∀ r, r ∈ L.rows d → RowIn m w r) ∧ w ≤ 900 ∧
  0 < n ∧ 0 < m ∧ n + m ≤ 1000000 ∧ ∀ H' q, Same H H' → H q = none → PartAt K H' (.ref q) (Halves.halfPartW L d p) → Q (.ref q) H'
theorem scHalfPart : FnScope ["lines", "part", "digit", "depth", "start", "own"] ["lines", "part", "digit"] (defScope sHalfPart) := ⟨rfl, rfl, rfl, by decide +kernel, rfl, by decide +kernel, by decide +kernel⟩
theorem ok_halfPart {C f fM : Addr} {fd fdM : FuncData} (F : Fun K "half_part" "half_part" sHalfPart f fd) (FM : Fn' P w K mg base 2 "half_mix" fM fdM ["lines", "mix", "digit"] (spHalfMix K C)) :
    FnOk P w K mg base CX0 3 f fd ["lines", "part", "digit"] (spHalfPart K C) := by
  refine F.ok scHalfPart (fun vs H Q E h => ?_) (fun cdv A outer s H vs Q E hr h => ?_)
  · obtain ⟨l, x, L, p, d, n, m, w, rfl, _⟩ := h
    rfl
  · obtain ⟨l, x, L, p, d, n, m, w, rfl, hl, ⟨t, mx, rfl, ht, hm⟩, hd, hdep, hf, hM, hw, n0, m0, hnm, k⟩ := h
    have nd := scHalfPart.nd
    refine ⟨_, pss_cons (ps_asg (pv 1) (pg_tup rfl (pgs_cons (pg_name (i := 3) nd rfl (Or.inl rfl)) (pgs_cons (pg_name (i := 4) nd rfl (Or.inl rfl)) (pgs_cons (pg_name (i := 5) nd rfl (Or.inl rfl)) pgs_nil)))))
      (pss_one (ps_ret (pe_tup (pa_cons (pe_op op_add (pv 3) pe_int) (pa_cons (pe_op op_add (pv 4) (pe_op op_shlN (pv 2) (pv 3))) (pa_cons (pe_call FM.ok hr rfl FM.m FM.k FM.b .nil pass0 (pa_cons (pv 0) (pa_cons (pv 5) (pa_cons (pv 2) pa_nil)))) pa_nil)))))), ?_⟩
    refine ⟨_, rfl, t, _, rfl, ht, rfl, _, _, rfl, _, _, rfl, _, _, rfl, rfl, ?_⟩
    have hsh : CShl (d : Int) (p.1 : Int) := shl_ok (n := 1) (by rw [Int.natAbs_natCast]; omega) (by omega)
    refine ⟨_, rfl, _, _, rfl, rfl, _, rfl, _, rfl, _, rfl, _, _, rfl, rfl, hsh, _, _, rfl, rfl, _, rfl, _, rfl, _, rfl, l, mx, L, p.2.2, d, n, m, w, rfl, hl, hm, hd, hf, hM, hw, n0, m0, hnm, fun H' q s' nq hq => ?_⟩
    refine ⟨by show 3 ≤ sizeLine; decide, fun T nT => ?_⟩
    refine k _ T (s'.trans (same_new nT)) (s'.free nT) ⟨T, q, rfl, SqT.of ?_, same_new nT _ _ hq⟩
    rw [upd_same]
    show some (HO.tup [V.int ((p.1 : Int) + 1), V.int ((p.2.1 : Int) + (d : Int) * 2 ^ p.1), V.ref q]) = _
    have e1 : ((p.1 : Int) + 1) = ((p.1 + 1 : Nat) : Int) := by omega
    have e2 : ((p.2.1 : Int) + (d : Int) * 2 ^ p.1) = ((p.2.1 + d * 2 ^ p.1 : Nat) : Int) := by
      rw [Int.natCast_add, Int.natCast_mul, Int.natCast_pow]; rfl
    rw [e1, e2]
    rfl
end
end L2.EH
end S_L8
section S_L9
set_option maxRecDepth 100000
set_option maxHeartbeats 4000000
namespace L2.EH
open PySem PySem.Spec PyProof.Rows
open L2.Halves (has keys Clean sumOf stepped Small WLines WOk vat combined fraction Fracs PartM fracAt filledW Told partStepW partStepsW toldRun ownRow leastIndex nextLevelW halfPartW stepOkB rowInB redOkB smallB clearOkB lookKnown)
theorem small4000 {n : Nat} (h : n ≤ 4000) : n < sizeLine := Nat.lt_of_le_of_lt h (by decide)
/-! ### checks -/
theorem clearOk_of {n : Nat} {row other : Halves.Row} {p : Nat} (h : clearOkB n row other p = true) : Clean row ∧ Clean other ∧ row.length + other.length ≤ 900 ∧ Halves.get other p ≠ 0 ∧ (∀ q, q ∈ row → q.2.natAbs < 2 ^ n) ∧ (∀ q, q ∈ other → q.2.natAbs < 2 ^ n) := by
  unfold clearOkB at h
  simp only [Bool.and_eq_true, decide_eq_true_eq, List.all_eq_true, bne_iff_ne] at h
  obtain ⟨⟨⟨⟨⟨⟨⟨h1, h2⟩, h3⟩, h4⟩, h5⟩, h6⟩, h7⟩, h8⟩ := h
  exact ⟨⟨h1, h2⟩, ⟨h3, h4⟩, h5, h6, h7, h8⟩
theorem redOk_of {n : Nat} : ∀ {E : List (Nat × Halves.Row)} {row : Halves.Row}, redOkB n row E = true → RedOk n row E
  | [], _, _ => trivial
  | (p, r) :: E, row, h => by
    unfold redOkB at h
    by_cases hh : has row p = true
    · rw [if_pos hh, Bool.and_eq_true] at h
      refine ⟨fun _ => clearOk_of h.1, ?_⟩
      rw [if_pos hh]; exact redOk_of h.2
    · rw [if_neg hh] at h
      refine ⟨fun h' => absurd h' hh, ?_⟩
      rw [if_neg hh]; exact redOk_of h
theorem rowIn_of {n w : Nat} {r : Halves.Row} (h : rowInB n w r = true) : RowIn n w r := by
  unfold rowInB smallB at h
  simp only [Bool.and_eq_true, decide_eq_true_eq, List.all_eq_true] at h
  obtain ⟨⟨⟨h1, h2⟩, h3⟩, h4⟩ := h
  refine ⟨h1, fun i hi => ?_, h3, h4⟩
  obtain ⟨q, hq, rfl⟩ := List.mem_map.1 hi
  exact h2 q hq
theorem get_small {n : Nat} : ∀ {r : Halves.Row}, smallB n r = true → ∀ i, (Halves.get r i).natAbs < 2 ^ n
  | [], _, i => by show (0 : Int).natAbs < 2 ^ n; exact Nat.pow_pos (by decide)
  | (k, v) :: r, h, i => by
    unfold smallB at h
    simp only [List.all_cons, Bool.and_eq_true, decide_eq_true_eq] at h
    rw [get_cons]
    split
    · exact h.1
    · exact get_small (r := r) h.2 i
structure StepOk (n w : Nat) (T : Told) (p : PartM) (rest : Halves.Row) : Prop where
  own : RowIn n w p.2.2
  dep : p.1 ≤ 1000
  parts : T.parts.length ≤ 300
  known : T.known.length ≤ 3000
  ech : T.E.length ≤ 300
  fresh : T.fresh.length ≤ 300
  red : RedOk n (ownRow p.2.2 w T.parts.length) T.E
  len : rest.length ≤ 900
  small : smallB n rest = true
  piv : leastIndex rest w = none → Halves.get rest (w + T.parts.length) ≠ 0
theorem stepOk_of {n w : Nat} {T : Told} {p : PartM} {rest : Halves.Row} (h : stepOkB n w T p rest = true) : StepOk n w T p rest := by
  unfold stepOkB at h
  simp only [Bool.and_eq_true, decide_eq_true_eq, Bool.or_eq_true, bne_iff_ne] at h
  obtain ⟨⟨⟨⟨⟨⟨⟨⟨⟨h1, h2⟩, h3⟩, h4⟩, h5⟩, h6⟩, h7⟩, h8⟩, h9⟩, h10⟩ := h
  exact ⟨rowIn_of h1, h2, h3, h4, h5, h6, redOk_of h7, h8, h9, fun e => h10.resolve_left fun z => z e⟩
theorem steps_fresh {n w : Nat} : ∀ (ps : List PartM) (T T' : Told), partStepsW n w T ps = some T' → (∀ p, p ∈ T.fresh → RowIn n w p.2.2 ∧ p.1 ≤ 1000) → T.fresh.length ≤ 301 → (∀ p, p ∈ T'.fresh → RowIn n w p.2.2 ∧ p.1 ≤ 1000) ∧ T'.fresh.length ≤ 301
  | [], T, T', h, hf, hl => by
    unfold partStepsW at h
    injection h with h
    subst h
    exact ⟨hf, hl⟩
  | p :: ps, T, T', h, hf, hl => by
    unfold partStepsW at h
    cases hps : partStepW n w T p with
    | none => rw [hps] at h; cases h
    | some Tn =>
      rw [hps] at h
      replace h : partStepsW n w Tn ps = some T' := h
      have key : (∀ p, p ∈ Tn.fresh → RowIn n w p.2.2 ∧ p.1 ≤ 1000) ∧ Tn.fresh.length ≤ 301 := by
        unfold partStepW at hps
        dsimp only at hps
        generalize Halves.reduced (ownRow p.2.2 w T.parts.length) T.E = rest at hps
        cases hok : stepOkB n w T p rest with
        | false => rw [hok] at hps; cases hps
        | true =>
          rw [hok] at hps
          have SO := stepOk_of hok
          replace hps : (match leastIndex rest w with
                  | none => some { T with known := ((p.1, p.2.1), Halves.combination rest w T.parts.length) :: T.known }
                  | some piv => some { E := T.E ++ [(piv, rest)], known := ((p.1, p.2.1), [(T.parts.length, (1, 1))]) :: T.known, parts := T.parts ++ [p], fresh := T.fresh ++ [p] : Told }) = some Tn := hps
          cases hpv : leastIndex rest w with
          | none =>
            rw [hpv] at hps
            injection hps with hps
            subst hps
            exact ⟨hf, hl⟩
          | some piv =>
            rw [hpv] at hps
            injection hps with hps
            subst hps
            refine ⟨fun q hq => ?_, ?_⟩
            · rcases List.mem_append.1 hq with h | h
              · exact hf q h
              · have : q = p := by simpa using h
                subst this; exact ⟨SO.own, SO.dep⟩
            · have := SO.fresh
              show (T.fresh ++ [p]).length ≤ 301
              rw [List.length_append]
              show T.fresh.length + 1 ≤ 301
              omega
      exact steps_fresh ps Tn T' h key.1 key.2
/-! ### data that is never written -/
def isD : HO → Bool
  | .lst _ => false
  | .dT _ => false
  | _ => true
def KeepD (H H' : Hp) : Prop := ∀ b o, H b = some o → isD o = true → H' b = some o
theorem KeepD.trans {H H1 H2 : Hp} (a : KeepD H H1) (b : KeepD H1 H2) : KeepD H H2 := fun c o h d => b c o (a c o h d) d
theorem keepD_same {H H' : Hp} (s : Same H H') : KeepD H H' := fun b o h _ => s b o h
theorem keepD_lst {H : Hp} {b : Addr} {xs : List V} {o : HO} (h : H b = some (.lst xs)) : KeepD H (upd H b o) := fun c q hc hd => by
  rw [upd_ne (by intro e; rw [e, h] at hc; cases hc; cases hd)]; exact hc
theorem keepD_dT {H : Hp} {b : Addr} {xs : List (List Key × V)} {o : HO} (h : H b = some (.dT xs)) : KeepD H (upd H b o) := fun c q hc hd => by
  rw [upd_ne (by intro e; rw [e, h] at hc; cases hc; cases hd)]; exact hc
section
variable {K : PySem.W.Frag}
theorem tup_keep {H H' : Hp} {a : Addr} {xs : List V} (k : KeepD H H') (h : SqT K H a xs) : SqT K H' a xs := by
  rcases h with (h | ⟨o, h⟩) | h
  · exact .inl (.inl (k _ _ h rfl))
  · exact .inl (.inr ⟨o, k _ _ h rfl⟩)
  · exact .inr h
theorem PartAt.keep {H H' : Hp} {v : V} {p : PartM} (h : PartAt K H v p) (k : KeepD H H') : PartAt K H' v p := by
  obtain ⟨t, m, h1, h2, h3⟩ := h
  exact ⟨t, m, h1, tup_keep k h2, k _ _ h3 rfl⟩
theorem FracD.keep {H H' : Hp} {a : Addr} {f : Fracs} (h : FracD K H a f) (k : KeepD H H') : FracD K H' a f := by
  obtain ⟨ts, h1, h2, h3⟩ := h
  exact ⟨ts, k _ _ h1 rfl, h2, fun i p q => k _ _ (h3 i p q) rfl⟩
theorem EchAt.keep {H H' : Hp} {x : V} {q : Nat × Halves.Row} (h : EchAt K H x q) (k : KeepD H H') : EchAt K H' x q := by
  obtain ⟨t, d, h1, h2, h3⟩ := h
  exact ⟨t, d, h1, k _ _ h2 rfl, k _ _ h3 rfl⟩
/-- a list of parts -/
def PartsAt (H : Hp) (a : Addr) (ps : List PartM) : Prop := ∃ xs : List V, H a = some (.lst xs) ∧ xs.length = ps.length ∧ ∀ i (h : i < xs.length) (h' : i < ps.length), PartAt K H xs[i] ps[i]
theorem PartsAt.keep {H H' : Hp} {a : Addr} {ps : List PartM} (h : PartsAt (K := K) H a ps) (k : KeepD H H') (ha : H' a = H a) : PartsAt (K := K) H' a ps := by
  obtain ⟨xs, h1, h2, h3⟩ := h
  exact ⟨xs, ha.trans h1, h2, fun i p q => (h3 i p q).keep k⟩
theorem PartsAt.add {H : Hp} {a : Addr} {ps : List PartM} {v : V} {p : PartM} {xs : List V} (h1 : H a = some (.lst xs)) (h2 : xs.length = ps.length) (h3 : ∀ i (h : i < xs.length) (h' : i < ps.length), PartAt K H xs[i] ps[i]) (hv : PartAt K H v p) :
    PartsAt (K := K) (upd H a (.lst (xs ++ [v]))) a (ps ++ [p]) := by
  refine ⟨xs ++ [v], upd_same, by simp [h2], fun i h h' => ?_⟩
  by_cases hi : i < xs.length
  · rw [List.getElem_append_left hi, List.getElem_append_left (by omega)]
    exact (h3 i hi (by omega)).keep (keepD_lst h1)
  · have e : i = xs.length := by simp at h; omega
    subst e
    have e1 : (xs ++ [v])[xs.length]'h = v := by rw [List.getElem_append_right (by omega)]; simp
    have e2 : (ps ++ [p])[xs.length]'h' = p := by rw [List.getElem_append_right (by omega)]; simp [h2]
    rw [e1, e2]; exact hv.keep (keepD_lst h1)
/-- what is known, as a dict by pairs -/
def KnownAt (H : Hp) (a : Addr) (kn : List ((Nat × Nat) × Fracs)) : Prop := ∃ kvs : List (List Key × V), H a = some (.dT kvs) ∧ kvs.length ≤ kn.length ∧
  ∀ (d s : Nat) (f : Fracs), lookKnown kn (d, s) = some f → ∃ b, valV kvs [Sum.inl (d : Int), Sum.inl (s : Int)] = some (.ref b) ∧ FracD K H b f
theorem KnownAt.keep {H H' : Hp} {a : Addr} {kn : List ((Nat × Nat) × Fracs)} (h : KnownAt (K := K) H a kn) (k : KeepD H H') (ha : H' a = H a) : KnownAt (K := K) H' a kn := by
  obtain ⟨kvs, h1, h2, h3⟩ := h
  refine ⟨kvs, ha.trans h1, h2, fun d s f hf => ?_⟩
  obtain ⟨b, e1, e2⟩ := h3 d s f hf
  exact ⟨b, e1, e2.keep k⟩
theorem KnownAt.add {H : Hp} {a b : Addr} {kn : List ((Nat × Nat) × Fracs)} {kvs : List (List Key × V)} (d s : Nat) (f : Fracs) (h1 : H a = some (.dT kvs)) (h2 : kvs.length ≤ kn.length)
    (h3 : ∀ (d s : Nat) (f : Fracs), lookKnown kn (d, s) = some f → ∃ b, valV kvs [Sum.inl (d : Int), Sum.inl (s : Int)] = some (.ref b) ∧ FracD K H b f) (hb : FracD K H b f) :
    KnownAt (K := K) (upd H a (.dT (putK kvs [Sum.inl (d : Int), Sum.inl (s : Int)] (.ref b)))) a (((d, s), f) :: kn) := by
  have kk : KeepD H (upd H a (.dT (putK kvs [Sum.inl (d : Int), Sum.inl (s : Int)] (.ref b)))) := keepD_dT h1
  refine ⟨_, upd_same, ?_, fun d' s' f' hf => ?_⟩
  · have := length_putK kvs [(Sum.inl (d : Int) : Key), Sum.inl (s : Int)] (V.ref b)
    simp only [List.length_cons]; omega
  · rw [valV_put]
    unfold lookKnown at hf
    by_cases e : (d, s) = (d', s')
    · rw [if_pos e] at hf
      injection hf with hf
      subst hf
      injection e with e1 e2
      subst e1 e2
      exact ⟨b, by rw [if_pos rfl], hb.keep kk⟩
    · rw [if_neg e] at hf
      have e' : ¬ ([(Sum.inl (d' : Int) : Key), Sum.inl (s' : Int)] = [Sum.inl (d : Int), Sum.inl (s : Int)]) := fun z => e (by
        injection z with z1 z2
        injection z2 with z2 _
        injection z1 with z1
        injection z2 with z2
        have : d = d' := by omega
        have : s = s' := by omega
        simp [*])
      obtain ⟨b', e1, e2⟩ := h3 d' s' f' hf
      exact ⟨b', by rw [if_neg e']; exact e1, e2.keep kk⟩
/-- an echelon, in a list of its own -/
def EchT (H : Hp) (a : Addr) (E : List (Nat × Halves.Row)) : Prop := ∃ xs : List V, H a = some (.lst xs) ∧ xs.length = E.length ∧ ∀ i (h : i < E.length) (h' : i < xs.length), EchAt K H xs[i] E[i]
theorem EchT.keep {H H' : Hp} {a : Addr} {E : List (Nat × Halves.Row)} (h : EchT (K := K) H a E) (k : KeepD H H') (ha : H' a = H a) : EchT (K := K) H' a E := by
  obtain ⟨xs, h1, h2, h3⟩ := h
  exact ⟨xs, ha.trans h1, h2, fun i p q => (h3 i p q).keep k⟩
theorem EchT.echK {H : Hp} {a : Addr} {E : List (Nat × Halves.Row)} (h : EchT (K := K) H a E) : EchK K H a E := by
  obtain ⟨xs, h1, h2, h3⟩ := h
  exact ⟨xs, SqL.of h1, h2, h3⟩
theorem EchT.add {H : Hp} {a : Addr} {E : List (Nat × Halves.Row)} {v : V} {q : Nat × Halves.Row} {xs : List V} (h1 : H a = some (.lst xs)) (h2 : xs.length = E.length) (h3 : ∀ i (h : i < E.length) (h' : i < xs.length), EchAt K H xs[i] E[i]) (hv : EchAt K H v q) :
    EchT (K := K) (upd H a (.lst (xs ++ [v]))) a (E ++ [q]) := by
  refine ⟨xs ++ [v], upd_same, by simp [h2], fun i h' h => ?_⟩
  by_cases hi : i < xs.length
  · rw [List.getElem_append_left hi, List.getElem_append_left (by omega)]
    exact (h3 i (by omega) hi).keep (keepD_lst h1)
  · have e : i = xs.length := by simp at h; omega
    subst e
    have e1 : (xs ++ [v])[xs.length]'h = v := by rw [List.getElem_append_right (by omega)]; simp
    have e2 : (E ++ [q])[xs.length]'h' = q := by rw [List.getElem_append_right (by omega)]; simp [h2]
    rw [e1, e2]; exact hv.keep (keepD_lst h1)
theorem EchT.same {H H' : Hp} {a : Addr} {E : List (Nat × Halves.Row)} (h : EchT (K := K) H a E) (s : Same H H') : EchT (K := K) H' a E := by
  obtain ⟨xs, h1, h2, h3⟩ := id h
  exact h.keep (keepD_same s) ((s _ _ h1).trans h1.symm)
theorem KnownAt.same {H H' : Hp} {a : Addr} {kn : List ((Nat × Nat) × Fracs)} (h : KnownAt (K := K) H a kn) (s : Same H H') : KnownAt (K := K) H' a kn := by
  obtain ⟨xs, h1, h2, h3⟩ := id h
  exact h.keep (keepD_same s) ((s _ _ h1).trans h1.symm)
theorem PartsAt.same {H H' : Hp} {a : Addr} {ps : List PartM} (h : PartsAt (K := K) H a ps) (s : Same H H') : PartsAt (K := K) H' a ps := by
  obtain ⟨xs, h1, h2, h3⟩ := id h
  exact h.keep (keepD_same s) ((s _ _ h1).trans h1.symm)
theorem dstar_heap {H : Hp} {p q : Addr} {kvs : List (Key × V)} {key : Key} {z : V} (np : H p = none) (nq : (upd (upd H p (.dK [])) p (.dK kvs)) q = none) :
    p ≠ q ∧ (upd (upd (upd H p (.dK [])) p (.dK kvs)) q (.dK [])) p = some (.dK kvs) ∧ Same H (upd (upd (upd (upd (upd H p (.dK [])) p (.dK kvs)) q (.dK [])) q (.dK [(key, z)])) p (.dK (putK kvs key z))) := by
  have hpq : p ≠ q := by intro e; rw [← e, upd_same] at nq; cases nq
  have nqH : H q = none := by rw [upd_ne (Ne.symm hpq), upd_ne (Ne.symm hpq)] at nq; exact nq
  refine ⟨hpq, by rw [upd_ne hpq, upd_same], fun b o e => ?_⟩
  have hb1 : b ≠ p := by intro z; rw [z, np] at e; cases e
  have hb2 : b ≠ q := by intro z; rw [z, nqH] at e; cases e
  rw [upd_ne hb1, upd_ne hb2, upd_ne hb2, upd_ne hb1, upd_ne hb1]; exact e
end
def spTold (K : PySem.W.Frag) (C : Addr) : Sp := fun vs H Q _ => ∃ (l m : Addr) (L : WLines) (mix : Halves.Row) (n a b c : Nat) (T : Told), vs = [.ref l, .ref m] ∧ LinesAt K C H l L ∧ WB L a b c ∧ H m = some (.dK (rowK mix)) ∧ 0 < n ∧ n ≤ 4400 ∧ Halves.toldOf n L mix = some T ∧
  ∀ H' q kn pp, Same H H' → H' q = some (.tup [.ref kn, .ref pp]) → KnownAt (K := K) H' kn T.known → PartsAt (K := K) H' pp T.parts → Q (.ref q) H'
theorem scTold : FnScope ["lines", "mix", "width", "echelon", "known", "parts", "level", "fresh", "part", "depth", "start", "own", "rest", "pivot", "digit"] ["lines", "mix"] (defScope sTold) := ⟨rfl, rfl, rfl, by decide +kernel, rfl, by decide +kernel, by decide +kernel⟩
section
variable {P : Program} {w : World} {K : PySem.W.Frag} {mg : Str → Option Value} {base : Heap}
theorem ok_told {C f fR fL fC fH : Addr} {fd fdR fdL fdC fdH : FuncData} (F : Fun K "told_parts" "told_parts" sTold f fd) (T : LinesC K C) (B : Nm7 mg) (FR : Fn' P w K mg base 3 "reduced" fR fdR ["row", "echelon"] (spReduced K)) (FL : Fn' P w K mg base 1 "least_index" fL fdL ["row", "width"] spLeastIx)
    (FC : Fn' P w K mg base 2 "combination" fC fdC ["rest", "width", "many"] (spComb K)) (FH : Fn' P w K mg base 3 "half_part" fH fdH ["lines", "part", "digit"] (spHalfPart K C)) : FnOk P w K mg base CX0 4 f fd ["lines", "mix"] (spTold K C) := by
  refine F.ok scTold (fun vs H Q E h => ?_) (fun cdv A outer s H vs Q E hr h => ?_)
  · obtain ⟨l, m, L, mix, n, a, b, c, TT, rfl, _⟩ := h
    rfl
  · obtain ⟨l, m, L, mix, n, a, b, c, TT, rfl, hl, hB, hm, n0, hn, hT, k⟩ := h
    have hu := hu_of hr
    have nd := scTold.nd
    obtain ⟨dx, t, e, o, st, h1, h2, h3, h4, h5⟩ := hl.ex
    refine ⟨_, pss_cons (ps_set (i := 2) nd rfl (Or.inl rfl) (pe_callB call_len_seq (by rfl) B.len boot_len (pa_cons (pe_fld (pv 0) rfl) pa_nil)))
      (pss_cons (ps_set (i := 3) nd rfl (Or.inl rfl) (pe_lst pa_nil))
      (pss_cons (ps_set (i := 4) nd rfl (Or.inl rfl) pe_dnewT)
      (pss_cons (ps_set (i := 5) nd rfl (Or.inl rfl) (pe_lst pa_nil))
      (pss_cons (ps_set (i := 6) nd rfl (Or.inl rfl) (pe_lst (pa_cons (pe_tup (pa_cons pe_int (pa_cons pe_int (pa_cons (pv 1) pa_nil)))) pa_nil)))
      (pss_cons (ps_while PassesOwn.never (pt_truth (pv 6) (by intro _; rfl))
        (pss_cons (ps_set (i := 7) nd rfl (Or.inr rfl) (pe_lst pa_nil))
        (pss_cons (ps_for PassesOwn.never rfl (pi_list (pv 6)) (pg_name (i := 8) nd rfl (Or.inl rfl))
          (pss_cons (ps_asg (pv 8) (pg_tup rfl (pgs_cons (pg_name (i := 9) nd rfl (Or.inl rfl)) (pgs_cons (pg_name (i := 10) nd rfl (Or.inl rfl)) (pgs_cons (pg_name (i := 11) nd rfl (Or.inl rfl)) pgs_nil)))))
          (pss_cons (ps_set (i := 12) nd rfl (Or.inl rfl) (pe_call FR.ok hr (by rfl) FR.m FR.k FR.b .nil pass0 (pa_cons (pe_dstar (pv 11) (pe_op op_add (pv 2) (pe_callB call_len_seq (by rfl) B.len boot_len (pa_cons (pv 5) pa_nil))) pe_int) (pa_cons (pv 3) pa_nil))))
          (pss_cons (ps_set (i := 13) nd rfl (Or.inl rfl) (pe_call FL.ok (hr.mono (by decide)) (by rfl) FL.m FL.k FL.b .nil pass0 (pa_cons (pv 12) (pa_cons (pv 2) pa_nil))))
          (pss_one (ps_if (pt_cmpR op_isN (pv 13) pe_non (nomark _))
            (pss_one (ps_dput hu (pv 4) (pe_tup (pa_cons (pv 9) (pa_cons (pv 10) pa_nil))) (pe_call FC.ok (hr.mono (by decide)) (by rfl) FC.m FC.k FC.b .nil pass0 (pa_cons (pv 12) (pa_cons (pv 2) (pa_cons (pe_callB call_len_seq (by rfl) B.len boot_len (pa_cons (pv 5) pa_nil)) pa_nil)))) rfl))
            (pss_cons (ps_dput hu (pv 4) (pe_tup (pa_cons (pv 9) (pa_cons (pv 10) pa_nil))) (pe_disp (pps_cons (pe_callB call_len_seq (by rfl) B.len boot_len (pa_cons (pv 5) pa_nil)) (pe_tup (pa_cons pe_int (pa_cons pe_int pa_nil))) pps_nil) (by rfl) (by rfl) (fun z => by cases z) (by decide)) rfl)
            (pss_cons (ps_expr (pe_bm PySem.F.plainAttrs_list PySem.F.slot_list_append PySem.F.type_list_append mt_append (pv 3) (pa_cons (pe_tup (pa_cons (pv 13) (pa_cons (pv 12) pa_nil))) pa_nil)))
            (pss_cons (ps_expr (pe_bm PySem.F.plainAttrs_list PySem.F.slot_list_append PySem.F.type_list_append mt_append (pv 5) (pa_cons (pv 8) pa_nil)))
            (pss_one (ps_expr (pe_bm PySem.F.plainAttrs_list PySem.F.slot_list_append PySem.F.type_list_append mt_append (pv 7) (pa_cons (pv 8) pa_nil)))))))))))))
        (pss_one (ps_setLc2 (i := 6) (own := [("digit", 14), ("part", 8)]) (vs1 := [8]) (g := gName 14) (g1 := gName 8) (tt := tYes) (tt1 := tYes) (wi1 := iList K (tVar 7)) (te := tCall (spHalfPart K C) [] E0 (tCons (tVar 0) (tCons (tVar 8) (tCons (tVar 14) tNil)))) rfl nd rfl rfl (sw_true rfl rfl rfl (by decide +kernel)) (pi_tup (pe_tup (pa_cons pe_int (pa_cons pe_int pa_nil)))) (blkOk_by (N := ["lines", "mix", "width", "echelon", "known", "parts", "level", "fresh", "part", "depth", "start", "own", "rest", "pivot", "digit"]) (sc := defScope sTold) (by decide +kernel)) (by decide)
          (fun _ _ _ _ _ => pg_name (i := 14) nd rfl (Or.inl rfl) (Or.inr rfl)) (fun _ _ _ _ _ => pts_nil) ?hi1 ?hg1 (fun _ _ _ _ _ => pts_nil) ?he)))))
      (pss_one (ps_ret (pe_tup (pa_cons (pv 4) (pa_cons (pv 5) pa_nil)))))))))), ?_⟩
    case hi1 => exact fun _ _ _ _ _ => pi_list (pv 7)
    case hg1 => exact fun _ _ _ _ _ => pg_name (i := 8) nd rfl (Or.inl rfl) (Or.inr rfl)
    case he => exact fun _ _ _ _ _ => pe_call FH.ok (by exact hr) (by rfl) FH.m FH.k FH.b .nil pass0 (pa_cons (pv 0) (pa_cons (pv 8) (pa_cons (pv 14) pa_nil)))
    have hw := hB.width
    refine ⟨_, rfl, l, C, dx, _, _, rfl, h1, T.cl, T.ns, lineF_s t st, st, _, rfl, .inl h5, ?_⟩
    rw [List.length_map]
    refine ⟨by show 0 ≤ sizeLine; decide, fun e0 ne0 => ?_⟩
    have sa := same_new (o := .lst []) ne0
    intro kn nkn
    have sb := sa.trans (same_new (o := .dT []) nkn)
    refine ⟨by show 0 ≤ sizeLine; decide, fun pp npp => ?_⟩
    have sc := sb.trans (same_new (o := .lst []) npp)
    refine ⟨_, rfl, by show 3 ≤ sizeLine; decide, fun t0 nt0 => ⟨by show 1 ≤ sizeLine; decide, fun lv nlv => ?_⟩⟩
    have sd := sc.trans (same_new (o := .tup [.int 0, .int 0, .ref m]) nt0)
    have se := sd.trans (same_new (o := .lst [.ref t0]) nlv)
    obtain ⟨Hs, hHs⟩ : ∃ Hs, Hs = upd (upd (upd (upd (upd H e0 (.lst [])) kn (.dT [])) pp (.lst [])) t0 (.tup [.int 0, .int 0, .ref m])) lv (.lst [.ref t0]) := ⟨_, rfl⟩
    have sH : Same H Hs := by
      intro y oy hy
      rw [hHs]; exact se _ _ hy
    have he0 : Hs e0 = some (.lst []) := by
      have q : (upd H e0 (.lst [])) e0 = some (.lst []) := upd_same
      rw [hHs]
      exact same_new nlv _ _ (same_new nt0 _ _ (same_new npp _ _ (same_new nkn _ _ q)))
    have hkn0 : Hs kn = some (.dT []) := by
      have q : (upd (upd H e0 (.lst [])) kn (.dT [])) kn = some (.dT []) := upd_same
      rw [hHs]
      exact same_new nlv _ _ (same_new nt0 _ _ (same_new npp _ _ q))
    have hpp0 : Hs pp = some (.lst []) := by
      have q : (upd (upd (upd H e0 (.lst [])) kn (.dT [])) pp (.lst [])) pp = some (.lst []) := upd_same
      rw [hHs]
      exact same_new nlv _ _ (same_new nt0 _ _ q)
    have ht0 : Hs t0 = some (.tup [.int 0, .int 0, .ref m]) := by
      rw [hHs]
      exact same_new nlv _ _ upd_same
    have hlv0 : Hs lv = some (.lst [.ref t0]) := by rw [hHs]; exact upd_same
    have nep : e0 ≠ pp := by
      intro z
      have q : (upd (upd H e0 (.lst [])) kn (.dT [])) e0 = some (.lst []) := same_new nkn _ _ upd_same
      rw [z] at q; rw [← z] at npp; rw [z] at npp; rw [npp] at q; cases q
    have lvn : ∀ b ob, (upd (upd (upd (upd H e0 (.lst [])) kn (.dT [])) pp (.lst [])) t0 (.tup [.int 0, .int 0, .ref m])) b = some ob → lv ≠ b := fun b ob hb z => by
      rw [← z, nlv] at hb; cases hb
    have nle : lv ≠ e0 := lvn _ _ (same_new nt0 _ _ (same_new npp _ _ (same_new nkn _ _ upd_same)))
    have nlp : lv ≠ pp := lvn _ _ (same_new nt0 _ _ upd_same)
    have neH : H e0 = none := ne0
    have nknH : H kn = none := (same_new (o := .lst []) ne0).free nkn
    have nppH : H pp = none := sb.free npp
    show tSeq _ _ _ [some (.ref l), some (.ref m), some (.int (L.starts.length : Int)), some (.ref e0), some (.ref kn), some (.ref pp), some (.ref lv), none, none, none, none, none, none, none, none] (upd (upd (upd (upd (upd H e0 (.lst [])) kn (.dT [])) pp (.lst [])) t0 (.tup [.int 0, .int 0, .ref m])) lv (.lst [.ref t0]))
    rw [← hHs]
    clear hHs se sd sc sb sa lvn nlv nt0 npp nkn
    have keepNew : ∀ (Hc : Hp) (b : Addr) (ob : HO), Same H Hc → H b = none → Same H (upd Hc b ob) := fun Hc b ob s' nb y oy hy => by
      rw [upd_ne (by intro z; rw [z, nb] at hy; cases hy)]; exact s' _ _ hy
    refine ⟨fun fuel σ Hk => ∃ (T0 : Told) (level : List PartM) (lv : Addr) (y7 y8 y9 y10 y11 y12 y13 y14 : Option V), toldRun n L fuel T0 level = some TT ∧ Same H Hk ∧ EchT (K := K) Hk e0 T0.E ∧ KnownAt (K := K) Hk kn T0.known ∧ PartsAt (K := K) Hk pp T0.parts ∧ PartsAt (K := K) Hk lv level ∧ lv ≠ e0 ∧ lv ≠ pp ∧
      σ = [some (.ref l), some (.ref m), some (.int (L.starts.length : Int)), some (.ref e0), some (.ref kn), some (.ref pp), some (.ref lv), y7, y8, y9, y10, y11, y12, y13, y14], ⟨40, _, _, lv, _, _, _, _, _, _, _, _, hT, sH, ⟨[], he0, rfl, fun i h => absurd h (by simp)⟩, ⟨[], hkn0, Nat.le_refl _, fun d s f hf => by simp [lookKnown] at hf⟩, ⟨[], hpp0, rfl, fun i h => absurd h (by simp)⟩, ⟨[.ref t0], hlv0, rfl, fun i h h' => ?_⟩, nle, nlp, rfl⟩, ?_⟩
    · have : i = 0 := by simp at h; omega
      subst this
      exact ⟨t0, m, rfl, SqT.of ht0, sH _ _ hm⟩
    clear hlv0 ht0 nle nlp he0 hkn0 hpp0 sH hT
    clear lv t0 Hs
    rintro fuel σ Hk ⟨T0, level, lv, y7, y8, y9, y10, y11, y12, y13, y14, hrun, hs, hE, hkn, hpp, hlv, nle, nlp, rfl⟩
    obtain ⟨lvs, hlv1, hlv2, hlv3⟩ := id hlv
    refine ⟨_, rfl, _, .inl ⟨_, SqL.of hlv1, rfl⟩, ?_⟩
    cases level with
    | nil =>
      have : lvs = [] := by simpa using hlv2
      subst this
      have e : T0 = TT := by
        cases fuel <;> (unfold toldRun at hrun; injection hrun)
      subst e
      refine iteF ⟨_, rfl, _, rfl, by show 2 ≤ sizeLine; decide, fun q nq => ?_⟩
      exact k _ q kn pp (hs.trans (same_new nq)) upd_same (hkn.same (same_new nq)) (hpp.same (same_new nq))
    | cons p ps =>
      have hne : (!lvs.isEmpty) = true := by
        cases lvs with
        | nil => simp at hlv2
        | cons => rfl
      rw [hne]
      cases fuel with
      | zero => unfold toldRun at hrun; cases hrun
      | succ fuel =>
        unfold toldRun at hrun
        cases hst : partStepsW n L.starts.length { T0 with fresh := [] } (p :: ps) with
        | none => rw [hst] at hrun; cases hrun
        | some T' =>
          rw [hst] at hrun
          replace hrun : toldRun n L fuel T' (nextLevelW L T'.fresh) = some TT := hrun
          generalize hlev : p :: ps = level at *
          refine iteT ⟨_, fun σ' H' h => ⟨fuel, Nat.lt_succ_self _, h⟩, ?_⟩
          refine ⟨by show 0 ≤ sizeLine; decide, fun fr nfr => ?_⟩
          have s1 := same_new (o := .lst []) nfr
          have hfr : (upd Hk fr (.lst [])) fr = some (.lst []) := upd_same
          have hE1 := hE.same s1
          have hkn1 := hkn.same s1
          have hpp1 := hpp.same s1
          have hlv1' := hlv.same s1
          have hs1 := hs.trans s1
          have nfe : fr ≠ e0 := by intro z; obtain ⟨_, q, _⟩ := hE; rw [z, q] at nfr; cases nfr
          have nfp : fr ≠ pp := by intro z; obtain ⟨_, q, _⟩ := hpp; rw [z, q] at nfr; cases nfr
          have nfl : fr ≠ lv := by intro z; rw [z, hlv1] at nfr; cases nfr
          have nfH : H fr = none := hs.free nfr
          generalize upd Hk fr (.lst []) = H1 at *
          refine ⟨_, rfl, lv, rfl, ⟨lvs, by obtain ⟨x, q, _⟩ := hlv1'; rw [s1 _ _ hlv1] at q; exact SqL.of (s1 _ _ hlv1)⟩, for_it (walk_list (xs := lvs)) (fun i σ Hc => ∃ (Ti : Told) (y8 y9 y10 y11 y12 y13 y14 : Option V), partStepsW n L.starts.length Ti (level.drop i) = some T' ∧ Same H Hc ∧ EchT (K := K) Hc e0 Ti.E ∧ KnownAt (K := K) Hc kn Ti.known ∧ PartsAt (K := K) Hc pp Ti.parts ∧ PartsAt (K := K) Hc fr Ti.fresh ∧ Hc lv = some (.lst lvs) ∧ (∀ i (h : i < lvs.length) (h' : i < level.length), PartAt K Hc lvs[i] level[i]) ∧
            σ = [some (.ref l), some (.ref m), some (.int (L.starts.length : Int)), some (.ref e0), some (.ref kn), some (.ref pp), some (.ref lv), some (.ref fr), y8, y9, y10, y11, y12, y13, y14]) ?_ (fun i σ Hc _ hP => by obtain ⟨_, _, _, _, _, _, _, _, _, _, _, _, _, _, q, _⟩ := hP; exact SqL.of q) ?_ ?_⟩
          · exact ⟨{ T0 with fresh := [] }, _, _, _, _, _, _, _, by rw [List.drop_zero]; exact hst, hs1, hE1, hkn1, hpp1, ⟨[], hfr, rfl, fun i h => absurd h (by simp)⟩, s1 _ _ hlv1, fun i h h' => (hlv3 i h h').same s1, rfl⟩
          · rintro i x σ Hc Hc' hi ⟨Ti, y8, y9, y10, y11, y12, y13, y14, hrest, hsc, hEi, hkni, hppi, hfri, hlvi, hlvp, rfl⟩ ⟨rfl, hx⟩
            have hi2 : i < level.length := by rw [← hlv2]; exact hi
            have hpx := hlvp i hi hi2
            have ex : x = lvs[i] := by rw [List.getElem?_eq_getElem hi] at hx; injection hx with hx; exact hx.symm
            rw [← ex] at hpx
            obtain ⟨tp, mp, rfl, htp, hmp⟩ := hpx
            rw [List.drop_eq_getElem_cons hi2] at hrest
            unfold partStepsW at hrest
            cases hps : partStepW n L.starts.length Ti level[i] with
            | none => rw [hps] at hrest; cases hrest
            | some Tn =>
              rw [hps] at hrest
              replace hrest : partStepsW n L.starts.length Tn (level.drop (i + 1)) = some T' := hrest
              generalize level[i] = pt at *
              unfold partStepW at hps
              obtain ⟨rest, hrst⟩ : ∃ rest, rest = Halves.reduced (ownRow pt.2.2 L.starts.length Ti.parts.length) Ti.E := ⟨_, rfl⟩
              rw [← hrst] at hps
              dsimp only at hps
              cases hok : stepOkB n L.starts.length Ti pt rest with
              | false => rw [hok] at hps; cases hps
              | true =>
                rw [hok] at hps
                replace hps : (match leastIndex rest L.starts.length with
                  | none => some { Ti with known := ((pt.1, pt.2.1), Halves.combination rest L.starts.length Ti.parts.length) :: Ti.known }
                  | some piv => some { E := Ti.E ++ [(piv, rest)], known := ((pt.1, pt.2.1), [(Ti.parts.length, (1, 1))]) :: Ti.known, parts := Ti.parts ++ [pt], fresh := Ti.fresh ++ [pt] : Told }) = some Tn := hps
                have SO := stepOk_of hok
                have hpn := SO.parts
                obtain ⟨pxs, hp1, hp2, hp3⟩ := id hppi
                refine ⟨_, rfl, tp, _, rfl, htp, rfl, _, _, rfl, _, _, rfl, _, _, rfl, rfl, ?_⟩
                refine fun q1 nq1 => ⟨_, rfl, mp, rowK pt.2.2, rfl, upd_same, (by intro z; rw [z] at hmp; rw [hmp] at nq1; cases nq1), same_new nq1 _ _ hmp, by rw [rowK_length]; have := SO.own.len; omega, fun q2 nq2 => ?_⟩
                obtain ⟨hq12, hq3, hq4⟩ := dstar_heap (key := (Sum.inl ((L.starts.length + Ti.parts.length : Nat) : Int) : Key)) (z := V.int 1) nq1 nq2
                have nq2H : Hc' q2 = none := by rw [upd_ne (Ne.symm hq12), upd_ne (Ne.symm hq12)] at nq2; exact nq2
                have hpp2 : (upd (upd (upd Hc' q1 (.dK [])) q1 (.dK (rowK pt.2.2))) q2 (.dK [])) pp = some (.lst pxs) := by
                  rw [upd_ne (by intro z; rw [z] at hp1; rw [hp1] at nq2H; cases nq2H), upd_ne (by intro z; rw [z] at hp1; rw [hp1] at nq1; cases nq1), upd_ne (by intro z; rw [z] at hp1; rw [hp1] at nq1; cases nq1)]
                  exact hp1
                refine ⟨_, rfl, _, rfl, pp, _, rfl, .inl (SqL.of hpp2), _, _, rfl, rfl, upd_same, hq3, Sum.inl ((L.starts.length + Ti.parts.length : Nat) : Int), ?_, ?_⟩
                · rw [hp2]
                  show V.int ((L.starts.length : Int) + (Ti.parts.length : Int)) = V.int ((L.starts.length + Ti.parts.length : Nat) : Int)
                  rw [Int.natCast_add]
                obtain ⟨Hf, hHf⟩ : ∃ Hf, Hf = upd (upd (upd (upd (upd Hc' q1 (.dK [])) q1 (.dK (rowK pt.2.2))) q2 (.dK [])) q2 (.dK [(Sum.inl ((L.starts.length + Ti.parts.length : Nat) : Int), V.int 1)])) q1 (.dK (putK (rowK pt.2.2) (Sum.inl ((L.starts.length + Ti.parts.length : Nat) : Int)) (V.int 1))) := ⟨_, rfl⟩
                rw [← hHf]
                rw [← hHf] at hq4
                have hf1 : Hf q1 = some (.dK (rowK (ownRow pt.2.2 L.starts.length Ti.parts.length))) := by
                  rw [hHf, upd_same, putK_row _ SO.own.nd]; rfl
                clear hHf hpp2 hq3 nq2
                refine ⟨_, rfl, q1, e0, _, Ti.E, n, rfl, hf1, (hEi.same hq4).echK, SO.red, hn, fun H2 q3 s2 hq3 => ?_⟩
                rw [← hrst] at hq3
                refine ⟨_, rfl, _, rfl, q3, rest, L.starts.length, rfl, hq3, by omega, fun H3 s3 => ?_⟩
                have s13 : Same Hc' H3 := (hq4.trans s2).trans s3
                have hq3' := s3 _ _ hq3
                have hE3 := hEi.same s13
                have hkn3 := hkni.same s13
                have hpp3 := hppi.same s13
                have hfr3 := hfri.same s13
                have hlv3' := s13 _ _ hlvi
                have hlvp3 : ∀ i (h : i < lvs.length) (h' : i < level.length), PartAt K H3 lvs[i] level[i] := fun i h h' => (hlvp i h h').same s13
                have htp3 := same_tup s13 htp
                have hmp3 := s13 _ _ hmp
                have hsc3 := hsc.trans s13
                clear s13 s3 s2 hq4 hf1 hE hkni hppi hfri
                cases hpv : leastIndex rest L.starts.length with
                | none =>
                  rw [hpv] at hps
                  injection hps with hps
                  subst hps
                  refine ⟨_, rfl, rfl, _, rfl, iteT ?_⟩
                  obtain ⟨pxs', hq1, hq2, hq3x⟩ := id hpp3
                  have hne := SO.piv hpv
                  have hgs := get_small SO.small (L.starts.length + Ti.parts.length)
                  refine ⟨_, rfl, _, rfl, _, rfl, pp, _, rfl, .inl (SqL.of hq1), q3, rest, L.starts.length, Ti.parts.length, by rw [hq2]; rfl, hq3', (Halves.has_iff _ _).2 (Halves.mem_keys_of_get hne), hne, Nat.lt_of_lt_of_le hgs (Nat.pow_le_pow_right (by decide) (by omega)), by omega, fun H4 fd s4 nfd hfd => ?_⟩
                  refine ⟨_, rfl, _, rfl, _, rfl, by show 2 ≤ sizeLine; decide, fun kt nkt => ?_⟩
                  have s5 := same_new (o := .tup [.int (pt.1 : Int), .int (pt.2.1 : Int)]) nkt
                  obtain ⟨kvs, hk1, hk2, hk3⟩ := (hkn3.same s4).same s5
                  refine ⟨kn, _, rfl, DPut.t (k := [Sum.inl (pt.1 : Int), Sum.inl (pt.2.1 : Int)]) hk1 upd_same (small4000 (by have := SO.known; omega)), ?_⟩
                  have s35 := s4.trans s5
                  have hEn := hE3.same s35
                  have hppn := hpp3.same s35
                  have hfrn := hfr3.same s35
                  have hlvn := s35 _ _ hlv3'
                  have hlvpn : ∀ i (h : i < lvs.length) (h' : i < level.length), PartAt K (upd H4 kt (.tup [.int (pt.1 : Int), .int (pt.2.1 : Int)])) lvs[i] level[i] := fun i h h' => (hlvp3 i h h').same s35
                  have hfdn := hfd.same s5
                  have hscn := hsc3.trans s35
                  generalize (upd H4 kt (.tup [.int (pt.1 : Int), .int (pt.2.1 : Int)])) = H5 at *
                  have kk : KeepD H5 (upd H5 kn (.dT (putK kvs [Sum.inl (pt.1 : Int), Sum.inl (pt.2.1 : Int)] (V.ref fd)))) := keepD_dT hk1
                  have oth : ∀ b xs, H5 b = some (.lst xs) → (upd H5 kn (.dT (putK kvs [Sum.inl (pt.1 : Int), Sum.inl (pt.2.1 : Int)] (V.ref fd)))) b = H5 b := fun b xs hb => upd_ne (by intro z; rw [z, hk1] at hb; cases hb)
                  refine ⟨_, _, _, _, _, _, _, _, hrest, keepNew _ _ _ hscn nknH, ?_, KnownAt.add pt.1 pt.2.1 _ hk1 hk2 hk3 hfdn, ?_, ?_, ?_, fun i h h' => (hlvpn i h h').keep kk, rfl⟩
                  · obtain ⟨xs, q, _⟩ := id hEn; exact hEn.keep kk (oth _ _ q)
                  · obtain ⟨xs, q, _⟩ := id hppn; exact hppn.keep kk (oth _ _ q)
                  · obtain ⟨xs, q, _⟩ := id hfrn; exact hfrn.keep kk (oth _ _ q)
                  · rw [oth _ _ hlvn]; exact hlvn
                | some piv =>
                  rw [hpv] at hps
                  injection hps with hps
                  subst hps
                  refine ⟨_, rfl, rfl, _, rfl, iteF ?_⟩
                  obtain ⟨pxs', hq1, hq2, hq3x⟩ := id hpp3
                  intro fd nfd
                  have sz1 := same_new (o := .dK []) nfd
                  refine ⟨_, rfl, pp, _, rfl, .inl (SqL.of (sz1 _ _ hq1)), by show 2 ≤ sizeLine; decide, fun tt ntt => ?_⟩
                  have sz2 := same_new (o := .tup [.int 1, .int 1]) ntt
                  have hfd0 : (upd H3 fd (.dK [])) fd = some (.dK []) := upd_same
                  refine ⟨sz2 _ _ hfd0, [(Sum.inl (Ti.parts.length : Int), V.ref tt)], by rw [hq2]; rfl, by show 1 ≤ 15; decide, ?_⟩
                  obtain ⟨H4, hH4⟩ : ∃ H4, H4 = upd (upd (upd H3 fd (.dK [])) tt (.tup [.int 1, .int 1])) fd (.dK (mergeK [] [(Sum.inl (Ti.parts.length : Int), V.ref tt)])) := ⟨_, rfl⟩
                  have htfd : tt ≠ fd := by intro z; rw [z, hfd0] at ntt; cases ntt
                  have s4 : Same H3 H4 := fun b ob hb => by
                    rw [hH4, upd_ne (by intro z; rw [z, nfd] at hb; cases hb)]; exact sz2 _ _ (sz1 _ _ hb)
                  have hfd : FracD K H4 fd [(Ti.parts.length, (1, 1))] := by
                    refine ⟨[tt], by rw [hH4, upd_same]; rfl, rfl, fun i h h' => ?_⟩
                    have : i = 0 := by simp at h; omega
                    subst this
                    show H4 tt = _
                    rw [hH4, upd_ne htfd, upd_same]; rfl
                  rw [← hH4]
                  clear hH4 hfd0 sz1 sz2 ntt
                  refine ⟨_, rfl, _, rfl, _, rfl, by show 2 ≤ sizeLine; decide, fun kt nkt => ?_⟩
                  have s5 := same_new (o := .tup [.int (pt.1 : Int), .int (pt.2.1 : Int)]) nkt
                  have s35 := s4.trans s5
                  obtain ⟨kvs, hk1, hk2, hk3⟩ := hkn3.same s35
                  refine ⟨kn, _, rfl, DPut.t (k := [Sum.inl (pt.1 : Int), Sum.inl (pt.2.1 : Int)]) hk1 upd_same (small4000 (by have := SO.known; omega)), ?_⟩
                  have hEn := hE3.same s35
                  have hppn := hpp3.same s35
                  have hfrn := hfr3.same s35
                  have hlvn := s35 _ _ hlv3'
                  have hlvpn : ∀ i (h : i < lvs.length) (h' : i < level.length), PartAt K (upd H4 kt (.tup [.int (pt.1 : Int), .int (pt.2.1 : Int)])) lvs[i] level[i] := fun i h h' => (hlvp3 i h h').same s35
                  have hfdn := hfd.same s5
                  have hscn := hsc3.trans s35
                  have hptn : PartAt K (upd H4 kt (.tup [.int (pt.1 : Int), .int (pt.2.1 : Int)])) (.ref tp) pt := ⟨tp, mp, rfl, same_tup s35 htp3, s35 _ _ hmp3⟩
                  have hrn := s35 _ _ hq3'
                  generalize (upd H4 kt (.tup [.int (pt.1 : Int), .int (pt.2.1 : Int)])) = H5 at *
                  have kk : KeepD H5 (upd H5 kn (.dT (putK kvs [Sum.inl (pt.1 : Int), Sum.inl (pt.2.1 : Int)] (V.ref fd)))) := keepD_dT hk1
                  have oth : ∀ b xs, H5 b = some (.lst xs) → (upd H5 kn (.dT (putK kvs [Sum.inl (pt.1 : Int), Sum.inl (pt.2.1 : Int)] (V.ref fd)))) b = H5 b := fun b xs hb => upd_ne (by intro z; rw [z, hk1] at hb; cases hb)
                  have hkn6 := KnownAt.add pt.1 pt.2.1 _ hk1 hk2 hk3 hfdn
                  have hE6 : EchT (K := K) (upd H5 kn (.dT (putK kvs [Sum.inl (pt.1 : Int), Sum.inl (pt.2.1 : Int)] (V.ref fd)))) e0 Ti.E := by obtain ⟨xs, q, _⟩ := id hEn; exact hEn.keep kk (oth _ _ q)
                  have hpp6 : PartsAt (K := K) (upd H5 kn (.dT (putK kvs [Sum.inl (pt.1 : Int), Sum.inl (pt.2.1 : Int)] (V.ref fd)))) pp Ti.parts := by obtain ⟨xs, q, _⟩ := id hppn; exact hppn.keep kk (oth _ _ q)
                  have hfr6 : PartsAt (K := K) (upd H5 kn (.dT (putK kvs [Sum.inl (pt.1 : Int), Sum.inl (pt.2.1 : Int)] (V.ref fd)))) fr Ti.fresh := by obtain ⟨xs, q, _⟩ := id hfrn; exact hfrn.keep kk (oth _ _ q)
                  have hlv6 : (upd H5 kn (.dT (putK kvs [Sum.inl (pt.1 : Int), Sum.inl (pt.2.1 : Int)] (V.ref fd)))) lv = some (.lst lvs) := by rw [oth _ _ hlvn]; exact hlvn
                  have hlvp6 : ∀ i (h : i < lvs.length) (h' : i < level.length), PartAt K (upd H5 kn (.dT (putK kvs [Sum.inl (pt.1 : Int), Sum.inl (pt.2.1 : Int)] (V.ref fd)))) lvs[i] level[i] := fun i h h' => (hlvpn i h h').keep kk
                  have hpt6 := hptn.keep kk
                  have hr6 := kk _ _ hrn rfl
                  have hsc6 := keepNew _ _ (.dT (putK kvs [Sum.inl (pt.1 : Int), Sum.inl (pt.2.1 : Int)] (V.ref fd))) hscn nknH
                  generalize (upd H5 kn (.dT (putK kvs [Sum.inl (pt.1 : Int), Sum.inl (pt.2.1 : Int)] (V.ref fd)))) = H6 at *
                  clear kk oth
                  -- echelon.append
                  obtain ⟨exs, he1, he2, he3⟩ := id hE6
                  refine ⟨_, rfl, .inl ⟨rfl, _, SqL.of he1⟩, _, rfl, _, rfl, by show 2 ≤ sizeLine; decide, fun te nte => ?_⟩
                  have s7 := same_new (o := .tup [.int (piv : Int), .ref q3]) nte
                  refine ⟨e0, exs, .ref te, rfl, rfl, s7 _ _ he1, small1000 (by have := SO.ech; omega), ?_⟩
                  have hE7 : EchT (K := K) (upd (upd H6 te (.tup [.int (piv : Int), .ref q3])) e0 (.lst (exs ++ [.ref te]))) e0 (Ti.E ++ [(piv, rest)]) := EchT.add (s7 _ _ he1) he2 (fun i h h' => (he3 i h h').keep (keepD_same s7)) ⟨te, q3, rfl, upd_same, s7 _ _ hr6⟩
                  have k7 : KeepD H6 (upd (upd H6 te (.tup [.int (piv : Int), .ref q3])) e0 (.lst (exs ++ [.ref te]))) := (keepD_same s7).trans (keepD_lst (s7 _ _ he1))
                  have o7 : ∀ b ob, b ≠ e0 → H6 b = some ob → (upd (upd H6 te (.tup [.int (piv : Int), .ref q3])) e0 (.lst (exs ++ [.ref te]))) b = some ob := fun b ob hb h => by rw [upd_ne hb]; exact s7 _ _ h
                  have hkn7 : KnownAt (K := K) (upd (upd H6 te (.tup [.int (piv : Int), .ref q3])) e0 (.lst (exs ++ [.ref te]))) kn (((pt.1, pt.2.1), [(Ti.parts.length, (1, 1))]) :: Ti.known) := by
                    obtain ⟨xs, q, _⟩ := id hkn6
                    exact hkn6.keep k7 ((o7 _ _ (by intro z; rw [z, he1] at q; cases q) q).trans q.symm)
                  have hpp7 : PartsAt (K := K) (upd (upd H6 te (.tup [.int (piv : Int), .ref q3])) e0 (.lst (exs ++ [.ref te]))) pp Ti.parts := by
                    obtain ⟨xs, q, _⟩ := id hpp6
                    exact hpp6.keep k7 ((o7 _ _ (Ne.symm nep) q).trans q.symm)
                  have hfr7 : PartsAt (K := K) (upd (upd H6 te (.tup [.int (piv : Int), .ref q3])) e0 (.lst (exs ++ [.ref te]))) fr Ti.fresh := by
                    obtain ⟨xs, q, _⟩ := id hfr6
                    exact hfr6.keep k7 ((o7 _ _ nfe q).trans q.symm)
                  have hlv7 := o7 _ _ nle hlv6
                  have hlvp7 : ∀ i (h : i < lvs.length) (h' : i < level.length), PartAt K (upd (upd H6 te (.tup [.int (piv : Int), .ref q3])) e0 (.lst (exs ++ [.ref te]))) lvs[i] level[i] := fun i h h' => (hlvp6 i h h').keep k7
                  have hpt7 := hpt6.keep k7
                  have hsc7 := keepNew _ _ (.lst (exs ++ [.ref te])) (hsc6.trans s7) neH
                  generalize (upd (upd H6 te (.tup [.int (piv : Int), .ref q3])) e0 (.lst (exs ++ [.ref te]))) = H7 at *
                  clear k7 o7
                  -- parts.append
                  obtain ⟨pxs7, hp71, hp72, hp73⟩ := id hpp7
                  refine ⟨_, rfl, .inl ⟨rfl, _, SqL.of hp71⟩, _, rfl, pp, pxs7, .ref tp, rfl, rfl, hp71, small1000 (by omega), ?_⟩
                  have hpp8 := PartsAt.add hp71 hp72 hp73 hpt7
                  have k8 : KeepD H7 (upd H7 pp (.lst (pxs7 ++ [.ref tp]))) := keepD_lst hp71
                  have o8 : ∀ b ob, b ≠ pp → H7 b = some ob → (upd H7 pp (.lst (pxs7 ++ [.ref tp]))) b = some ob := fun b ob hb h => by rw [upd_ne hb]; exact h
                  have hE8 : EchT (K := K) (upd H7 pp (.lst (pxs7 ++ [.ref tp]))) e0 (Ti.E ++ [(piv, rest)]) := by
                    obtain ⟨xs, q, _⟩ := id hE7
                    exact hE7.keep k8 ((o8 _ _ nep q).trans q.symm)
                  have hkn8 : KnownAt (K := K) (upd H7 pp (.lst (pxs7 ++ [.ref tp]))) kn (((pt.1, pt.2.1), [(Ti.parts.length, (1, 1))]) :: Ti.known) := by
                    obtain ⟨xs, q, _⟩ := id hkn7
                    exact hkn7.keep k8 ((o8 _ _ (by intro z; rw [z, hp71] at q; cases q) q).trans q.symm)
                  have hfr8 : PartsAt (K := K) (upd H7 pp (.lst (pxs7 ++ [.ref tp]))) fr Ti.fresh := by
                    obtain ⟨xs, q, _⟩ := id hfr7
                    exact hfr7.keep k8 ((o8 _ _ nfp q).trans q.symm)
                  have hlv8 := o8 _ _ nlp hlv7
                  have hlvp8 : ∀ i (h : i < lvs.length) (h' : i < level.length), PartAt K (upd H7 pp (.lst (pxs7 ++ [.ref tp]))) lvs[i] level[i] := fun i h h' => (hlvp7 i h h').keep k8
                  have hpt8 := hpt7.keep k8
                  have hsc8 := keepNew _ _ (.lst (pxs7 ++ [.ref tp])) hsc7 nppH
                  generalize (upd H7 pp (.lst (pxs7 ++ [.ref tp]))) = H8 at *
                  clear k8 o8
                  -- fresh.append
                  obtain ⟨fxs, hf81, hf82, hf83⟩ := id hfr8
                  refine ⟨_, rfl, .inl ⟨rfl, _, SqL.of hf81⟩, _, rfl, fr, fxs, .ref tp, rfl, rfl, hf81, small1000 (by have := SO.fresh; omega), ?_⟩
                  have k9 : KeepD H8 (upd H8 fr (.lst (fxs ++ [.ref tp]))) := keepD_lst hf81
                  have o9 : ∀ b ob, b ≠ fr → H8 b = some ob → (upd H8 fr (.lst (fxs ++ [.ref tp]))) b = some ob := fun b ob hb h => by rw [upd_ne hb]; exact h
                  refine ⟨_, _, _, _, _, _, _, _, hrest, keepNew _ _ _ hsc8 nfH, ?_, ?_, ?_, PartsAt.add hf81 hf82 hf83 hpt8, o9 _ _ (Ne.symm nfl) hlv8, fun i h h' => (hlvp8 i h h').keep k9, rfl⟩
                  · obtain ⟨xs, q, _⟩ := id hE8
                    exact hE8.keep k9 ((o9 _ _ (Ne.symm nfe) q).trans q.symm)
                  · obtain ⟨xs, q, _⟩ := id hkn8
                    exact hkn8.keep k9 ((o9 _ _ (by intro z; rw [z, hf81] at q; cases q) q).trans q.symm)
                  · obtain ⟨xs, q, _⟩ := id hpp8
                    exact hpp8.keep k9 ((o9 _ _ (Ne.symm nfp) q).trans q.symm)
          · rintro σ Hc ⟨Ti, y8, y9, y10, y11, y12, y13, y14, hrest, hsc, hEi, hkni, hppi, hfri, hlvi, hlvp, rfl⟩
            have eT : Ti = T' := by
              rw [List.drop_of_length_le (by omega)] at hrest
              unfold partStepsW at hrest
              injection hrest
            subst eT
            obtain ⟨hfok, hfl⟩ := steps_fresh _ _ _ hst (by simp) (by simp)
            refine ⟨by show 2 ≤ sizeLine; decide, fun dt ndt => ⟨dt, rfl, ⟨_, SqT.of upd_same⟩, fun D nD => ?_⟩⟩
            have sdt := same_new (o := .tup [.int 0, .int 1]) ndt
            have hdt : (upd Hc dt (.tup [.int 0, .int 1])) dt = some (.tup [.int 0, .int 1]) := upd_same
            have hEd := hEi.same sdt
            have hknd := hkni.same sdt
            have hppd := hppi.same sdt
            have hfrd := hfri.same sdt
            have hscd := hsc.trans sdt
            generalize (upd Hc dt (.tup [.int 0, .int 1])) = Hd at *
            have nDe : D ≠ e0 := by intro z; obtain ⟨_, q, _⟩ := hEd; rw [z, q] at nD; cases nD
            have nDp : D ≠ pp := by intro z; obtain ⟨_, q, _⟩ := hppd; rw [z, q] at nD; cases nD
            have sD := same_new (o := .lst []) nD
            have keepD' : ∀ (Hk : Hp) (ob : HO), Same Hd Hk → Same Hd (upd Hk D ob) := fun Hk ob s' y oy hy => by
              rw [upd_ne (by intro z; rw [z, nD] at hy; cases hy)]; exact s' _ _ hy
            obtain ⟨fxs, hfx1, hfx2, hfx3⟩ := id hfrd
            have enl : (nextLevelW L Ti.fresh).length = 2 * Ti.fresh.length := by unfold nextLevelW; simp; omega
            have egt : ∀ d j, d < 2 → (hj : j < Ti.fresh.length) → (h : d * Ti.fresh.length + j < (nextLevelW L Ti.fresh).length) → (nextLevelW L Ti.fresh)[d * Ti.fresh.length + j] = halfPartW L d Ti.fresh[j] := fun d j hd hj h => by
              unfold nextLevelW
              rcases (by omega : d = 0 ∨ d = 1) with rfl | rfl
              · simp only [Nat.zero_mul, Nat.zero_add]
                rw [List.getElem_append_left (by simpa using hj)]; simp
              · simp only [Nat.one_mul]
                rw [List.getElem_append_right (by simp)]; simp
            refine lc_out (walk_tup (xs := [V.int 0, V.int 1])) (fun d Hk => Same Hd Hk ∧ PartsAt (K := K) Hk D ((nextLevelW L Ti.fresh).take (d * Ti.fresh.length))) ⟨sD, [], upd_same, by simp, fun i h => absurd h (by simp)⟩ (fun d Hk _ hP => SqT.of (hP.1 _ _ hdt)) ?_ ?_
            · rintro d x Hk H' hd ⟨hs', hP⟩ ⟨rfl, hx⟩
              have hd2 : d < 2 := hd
              have ex : x = .int (d : Int) := by
                rcases (by omega : d = 0 ∨ d = 1) with rfl | rfl <;> (cases hx; rfl)
              subst ex
              refine ⟨rfl, ?_⟩
              refine ⟨_, rfl, fr, rfl, ⟨_, SqL.of (hs' _ _ hfx1)⟩, ?_⟩
              refine lc_out (walk_list (xs := fxs)) (fun j Hk => Same Hd Hk ∧ PartsAt (K := K) Hk D ((nextLevelW L Ti.fresh).take (d * Ti.fresh.length + j))) ⟨hs', hP⟩ (fun j Hk _ hP => SqL.of (hP.1 _ _ hfx1)) ?_ ?_
              · rintro j y Hk2 H2 hj ⟨hs2, hP2⟩ ⟨rfl, hy⟩
                have hj2 : j < Ti.fresh.length := by omega
                have ey : y = fxs[j] := by rw [List.getElem?_eq_getElem hj] at hy; injection hy with hy; exact hy.symm
                have hpj := (hfx3 j hj hj2).same hs2
                rw [← ey] at hpj
                obtain ⟨fo1, fo2⟩ := hfok _ (List.getElem_mem hj2)
                refine ⟨rfl, ?_⟩
                refine ⟨_, rfl, _, rfl, _, rfl, l, y, L, Ti.fresh[j], d, n, a, L.starts.length, rfl, hl.same (hscd.trans hs2), hpj, hd2, by omega, by rw [hB.ok.len]; exact fo1, hB.rowIn d, by omega, n0, hB.a0, by have := hB.al; omega, fun H3 q s3 nq hq => ?_⟩
                obtain ⟨ys, hy1, hy2, hy3⟩ := hP2.same s3
                have hbound : d * Ti.fresh.length + j < (nextLevelW L Ti.fresh).length := by
                  rw [enl]
                  rcases (by omega : d = 0 ∨ d = 1) with rfl | rfl <;> omega
                have hylen : ys.length ≤ 700 := by
                  rw [hy2, List.length_take]
                  have : (nextLevelW L Ti.fresh).length ≤ 602 := by rw [enl]; omega
                  omega
                refine ⟨ys, hy1, small1000 (by omega), keepD' _ _ (hs2.trans s3), ?_⟩
                have eadd : (nextLevelW L Ti.fresh).take (d * Ti.fresh.length + (j + 1)) = (nextLevelW L Ti.fresh).take (d * Ti.fresh.length + j) ++ [halfPartW L d Ti.fresh[j]] := by
                  rw [← egt d j hd2 hj2 hbound, ← Nat.add_assoc, List.take_succ_eq_append_getElem hbound]
                rw [eadd]
                exact PartsAt.add hy1 hy2 hy3 hq
              · rintro Hk2 ⟨hs2, hP2⟩
                refine ⟨hs2, ?_⟩
                have e : d * Ti.fresh.length + fxs.length = (d + 1) * Ti.fresh.length := by rw [hfx2, Nat.succ_mul]
                rw [e] at hP2
                exact hP2
            · rintro Hk2 ⟨hs2, hP2⟩
              have e : ([V.int 0, V.int 1] : List V).length * Ti.fresh.length = (nextLevelW L Ti.fresh).length := enl.symm
              rw [e, List.take_length] at hP2
              exact ⟨Ti, nextLevelW L Ti.fresh, D, _, _, _, _, _, _, _, _, hrun, hscd.trans hs2, hEd.same hs2, hknd.same hs2, hppd.same hs2, hP2, nDe, nDp, rfl⟩
end
end L2.EH
end S_L9
section S_L10
set_option maxRecDepth 100000
set_option maxHeartbeats 4000000
namespace L2.EH
open PySem PySem.Spec PyProof.Rows
open L2.Halves (has keys Clean sumOf stepped Small WLines WOk vat combined fraction Fracs PartM fracAt filledW Told partStepW partStepsW toldRun ownRow leastIndex nextLevelW halfPartW stepOkB rowInB redOkB smallB clearOkB lookKnown Rule ruleRow ruleRows ruleOf toldOf)
def PartOk (n w : Nat) (p : PartM) : Prop := RowIn n w p.2.2 ∧ p.1 ≤ 1000
theorem steps_parts {n w : Nat} : ∀ (ps : List PartM) (T T' : Told), partStepsW n w T ps = some T' → (∀ p, p ∈ T.parts → PartOk n w p) → T.parts.length ≤ 301 → (∀ p, p ∈ T'.parts → PartOk n w p) ∧ T'.parts.length ≤ 301
  | [], T, T', h, hf, hl => by
    unfold partStepsW at h
    injection h with h
    subst h
    exact ⟨hf, hl⟩
  | p :: ps, T, T', h, hf, hl => by
    unfold partStepsW at h
    cases hps : partStepW n w T p with
    | none => rw [hps] at h; cases h
    | some Tn =>
      rw [hps] at h
      replace h : partStepsW n w Tn ps = some T' := h
      have key : (∀ p, p ∈ Tn.parts → PartOk n w p) ∧ Tn.parts.length ≤ 301 := by
        unfold partStepW at hps
        dsimp only at hps
        generalize Halves.reduced (ownRow p.2.2 w T.parts.length) T.E = rest at hps
        cases hok : stepOkB n w T p rest with
        | false => rw [hok] at hps; cases hps
        | true =>
          rw [hok] at hps
          have SO := stepOk_of hok
          replace hps : (match leastIndex rest w with
                  | none => some { T with known := ((p.1, p.2.1), Halves.combination rest w T.parts.length) :: T.known }
                  | some piv => some { E := T.E ++ [(piv, rest)], known := ((p.1, p.2.1), [(T.parts.length, (1, 1))]) :: T.known, parts := T.parts ++ [p], fresh := T.fresh ++ [p] : Told }) = some Tn := hps
          cases hpv : leastIndex rest w with
          | none =>
            rw [hpv] at hps
            injection hps with hps
            subst hps
            exact ⟨hf, hl⟩
          | some piv =>
            rw [hpv] at hps
            injection hps with hps
            subst hps
            refine ⟨fun q hq => ?_, ?_⟩
            · rcases List.mem_append.1 hq with h | h
              · exact hf q h
              · have : q = p := by simpa using h
                subst this; exact ⟨SO.own, SO.dep⟩
            · have := SO.parts
              show (T.parts ++ [p]).length ≤ 301
              rw [List.length_append]
              show T.parts.length + 1 ≤ 301
              omega
      exact steps_parts ps Tn T' h key.1 key.2
theorem run_parts {n : Nat} {L : WLines} : ∀ (fuel : Nat) (T : Told) (level : List PartM) (TT : Told), toldRun n L fuel T level = some TT → (∀ p, p ∈ T.parts → PartOk n L.starts.length p) → T.parts.length ≤ 301 → (∀ p, p ∈ TT.parts → PartOk n L.starts.length p) ∧ TT.parts.length ≤ 301
  | fuel, T, [], TT, h, hf, hl => by
    have e : T = TT := by cases fuel <;> (unfold toldRun at h; injection h)
    subst e; exact ⟨hf, hl⟩
  | 0, T, p :: ps, TT, h, hf, hl => by unfold toldRun at h; cases h
  | fuel + 1, T, p :: ps, TT, h, hf, hl => by
    unfold toldRun at h
    cases hst : partStepsW n L.starts.length { T with fresh := [] } (p :: ps) with
    | none => rw [hst] at h; cases h
    | some T' =>
      rw [hst] at h
      replace h : toldRun n L fuel T' (nextLevelW L T'.fresh) = some TT := h
      obtain ⟨a, b⟩ := steps_parts _ _ _ hst hf hl
      exact run_parts fuel T' _ TT h a b
mutual
def tupOnly : PyData → Bool
  | .list _ => false
  | .tuple ds => tupsOnly ds
  | _ => true
def tupsOnly : List PyData → Bool
  | [] => true
  | d :: ds => tupOnly d && tupsOnly ds
end
mutual
theorem dp_keep {K : PySem.W.Frag} {H H' : Hp} (k : KeepD H H') : ∀ {v : V} {d : PyData}, tupOnly d = true → Dp K H v d → Dp K H' v d
  | _, _, _, .non => .non
  | _, _, _, .bl b => .bl b
  | _, _, _, .int i => .int i
  | _, _, _, .str x => .str x
  | _, _, e, .lst h r => by simp [tupOnly] at e
  | _, _, e, .tup h r => .tup (tup_keep k h) (dpAll_keep k (by simpa [tupOnly] using e) r)
theorem dpAll_keep {K : PySem.W.Frag} {H H' : Hp} (k : KeepD H H') : ∀ {vs : List V} {ds : List PyData}, tupsOnly ds = true → DpAll K H vs ds → DpAll K H' vs ds
  | _, _, _, .nil => .nil
  | _, _, e, .cons h r => .cons (dp_keep k (by simp [tupsOnly] at e; exact e.1) h) (dpAll_keep k (by simp [tupsOnly] at e; exact e.2) r)
end
theorem tupsOnly_map {α : Type} (f : α → PyData) (h : ∀ x, tupOnly (f x) = true) : ∀ xs : List α, tupsOnly (xs.map f) = true
  | [] => rfl
  | x :: xs => by simp [tupsOnly, h x, tupsOnly_map f h xs]
theorem pairD_tup (p : Int × Int) : tupOnly (pairD p) = true := rfl
def basisD (R : Rule) : PyData := .tuple (R.basis.map fun p => .tuple [.int (p.1 : Int), .int (p.2 : Int)])
def rowsD (R : Rule) : PyData := .tuple (R.rows.map fun r => .tuple [.tuple (r.1.map pairD), .tuple (r.2.map pairD)])
def firstsD (R : Rule) : PyData := .tuple (R.firsts.map .int)
def spLeastRule (K : PySem.W.Frag) (C : Addr) : Sp := fun vs H Q _ => ∃ (l m : Addr) (L : WLines) (mix : Halves.Row) (n a b c : Nat) (R : Rule), vs = [.ref l, .ref m] ∧ LinesAt K C H l L ∧ WB L a b c ∧ H m = some (.dK (rowK mix)) ∧ 0 < n ∧ n ≤ 4400 ∧ ruleOf n L mix = some R ∧
  ∀ H' q x y z, Same H H' → H' q = some (.tup [.ref x, .ref y, .ref z]) → Dp K H' (.ref x) (basisD R) → Dp K H' (.ref y) (rowsD R) → Dp K H' (.ref z) (firstsD R) → Q (.ref q) H'
theorem scLeastRule : FnScope ["lines", "mix", "known", "parts", "equations", "depth", "start", "_", "even", "odd", "basis", "firsts", "own"] ["lines", "mix"] (defScope sLeastRule) := ⟨rfl, rfl, rfl, by decide +kernel, rfl, by decide +kernel, by decide +kernel⟩
section
variable {P : Program} {w : World} {K : PySem.W.Frag} {mg : Str → Option Value} {base : Heap}
theorem ok_leastRule {C f fT fF fS : Addr} {fd fdT fdF fdS : FuncData} (F : Fun K "least_rule" "least_rule" sLeastRule f fd) (T : LinesC K C) (B : Nm7 mg) (B8 : Nm8 mg) (FT : Fn' P w K mg base 4 "told_parts" fT fdT ["lines", "mix"] (spTold K C)) (FF : Fn' P w K mg base 1 "filled" fF fdF ["fractions", "many"] (spFilled K))
    (FS : Fn' P w K mg base 1 "sum_of" fS fdS ["factors", "values"] (spSumOf K)) : FnOk P w K mg base CX0 5 f fd ["lines", "mix"] (spLeastRule K C) := by
  refine F.ok scLeastRule (fun vs H Q E h => ?_) (fun cdv A outer s H vs Q E hr h => ?_)
  · obtain ⟨l, m, L, mix, n, a, b, c, R, rfl, _⟩ := h
    rfl
  · obtain ⟨l, m, L, mix, n, a, b, c, R, rfl, hl, hB, hm, n0, hn, hR, k⟩ := h
    have hu := hu_of hr
    have nd := scLeastRule.nd
    obtain ⟨dx, t, e, o, st, h1, h2, h3, h4, h5⟩ := hl.ex
    refine ⟨_, pss_cons (ps_asg (pe_call FT.ok hr rfl FT.m FT.k FT.b .nil pass0 (pa_cons (pv 0) (pa_cons (pv 1) pa_nil))) (pg_tup rfl (pgs_cons (pg_name (i := 2) nd rfl (Or.inl rfl)) (pgs_cons (pg_name (i := 3) nd rfl (Or.inl rfl)) pgs_nil))))
      (pss_cons (ps_set (i := 4) nd rfl (Or.inl rfl) (pe_lst pa_nil))
      (pss_cons (ps_for PassesOwn.never rfl (pi_list (pv 3)) (pg_tup rfl (pgs_cons (pg_name (i := 5) nd rfl (Or.inl rfl)) (pgs_cons (pg_name (i := 6) nd rfl (Or.inl rfl)) (pgs_cons (pg_name (i := 7) nd rfl (Or.inl rfl)) pgs_nil))))
        (pss_cons (ps_set (i := 8) nd rfl (Or.inl rfl) (pe_dget hu (pv 2) (pe_tup (pa_cons (pe_op op_add (pv 5) pe_int) (pa_cons (pv 6) pa_nil))) (fun _ _ => rfl)))
        (pss_cons (ps_set (i := 9) nd rfl (Or.inl rfl) (pe_dget hu (pv 2) (pe_tup (pa_cons (pe_op op_add (pv 5) pe_int) (pa_cons (pe_op op_add (pv 6) (pe_op op_oneShl pe_int (pv 5))) pa_nil))) (fun _ _ => rfl)))
        (pss_one (ps_expr (pe_bm PySem.F.plainAttrs_list PySem.F.slot_list_append PySem.F.type_list_append mt_append (pv 4) (pa_cons (pe_tup (pa_cons (pe_call FF.ok (hr.mono (by decide)) (by rfl) FF.m FF.k FF.b .nil pass0 (pa_cons (pv 8) (pa_cons (pe_callB call_len_seq (by rfl) B.len boot_len (pa_cons (pv 3) pa_nil)) pa_nil))) (pa_cons (pe_call FF.ok (hr.mono (by decide)) (by rfl) FF.m FF.k FF.b .nil pass0 (pa_cons (pv 9) (pa_cons (pe_callB call_len_seq (by rfl) B.len boot_len (pa_cons (pv 3) pa_nil)) pa_nil))) pa_nil))) pa_nil)))))))
      (pss_cons (ps_set (i := 10) nd rfl (Or.inl rfl) (pe_callTy call_tuple_of (by rfl) B8.tuple (by decide +kernel) (pa_cons (pe_lc (own := [("depth", 5), ("start", 6), ("_", 7)]) (g := gTup K 3 (gCons (gName 5) (gCons (gName 6) (gCons (gName 7) gNil)))) (tt := tYes) rfl nd (pi_list (pv 3)) (blkOk_by (N := ["lines", "mix", "known", "parts", "equations", "depth", "start", "_", "even", "odd", "basis", "firsts", "own"]) (sc := defScope sLeastRule) (by decide +kernel))
        (fun _ _ _ _ _ => pg_tup rfl (pgs_cons (pg_name (i := 5) nd rfl (Or.inl rfl) (Or.inr rfl)) (pgs_cons (pg_name (i := 6) nd rfl (Or.inl rfl) (Or.inr rfl)) (pgs_cons (pg_name (i := 7) nd rfl (Or.inl rfl) (Or.inr rfl)) pgs_nil rfl) rfl) rfl) rfl rfl) (fun _ _ _ _ _ => pts_nil)
        (fun _ _ _ _ _ => pe_tup (pa_cons (pv 5) (pa_cons (pv 6) pa_nil)))) pa_nil)))
      (pss_cons (ps_set (i := 11) nd rfl (Or.inl rfl) (pe_callTy call_tuple_of (by rfl) B8.tuple (by decide +kernel) (pa_cons (pe_lc (own := [("_", 7), ("own", 12)]) (g := gTup K 3 (gCons (gName 7) (gCons (gName 7) (gCons (gName 12) gNil)))) (tt := tYes) (te := tCall (spSumOf K) [] E0 (tCons (tVar 12) (tCons (tFld K (tVar 0) "starts") tNil))) rfl nd (pi_list (pv 3)) (blkOk_by (N := ["lines", "mix", "known", "parts", "equations", "depth", "start", "_", "even", "odd", "basis", "firsts", "own"]) (sc := defScope sLeastRule) (by decide +kernel))
        (fun _ _ _ _ _ => pg_tup rfl (pgs_cons (pg_name (i := 7) nd rfl (Or.inl rfl) (Or.inr rfl)) (pgs_cons (pg_name (i := 7) nd rfl (Or.inl rfl) (Or.inr rfl)) (pgs_cons (pg_name (i := 12) nd rfl (Or.inl rfl) (Or.inr rfl)) pgs_nil rfl) rfl) rfl) rfl rfl) (fun _ _ _ _ _ => pts_nil)
        (fun _ _ _ _ _ => pe_call FS.ok (by exact hr.mono (by decide)) (by rfl) FS.m FS.k FS.b .nil pass0 (pa_cons (pv 12) (pa_cons (pe_fld (pv 0) rfl) pa_nil)))) pa_nil)))
      (pss_one (ps_ret (pe_tup (pa_cons (pv 10) (pa_cons (pe_callTy call_tuple_of (by rfl) B8.tuple (by decide +kernel) (pa_cons (pv 4) pa_nil)) (pa_cons (pv 11) pa_nil)))))))))), ?_⟩
    have hw := hB.width
    unfold ruleOf at hR
    cases hT : toldOf n L mix with
    | none => rw [hT] at hR; cases hR
    | some TT =>
    rw [hT] at hR
    dsimp only at hR
    cases hrw : ruleRows TT TT.parts with
    | none => rw [hrw] at hR; cases hR
    | some rows =>
    rw [hrw] at hR
    injection hR with hR
    subst hR
    obtain ⟨hpok, hplen⟩ := run_parts _ _ _ _ hT (by simp) (by simp)
    have hrows : ∀ (ps : List PartM) (rs : List (List (Int × Int) × List (Int × Int))), ruleRows TT ps = some rs → rs.length = ps.length ∧ ∀ i (h : i < ps.length) (h' : i < rs.length), ruleRow TT ps[i] = some rs[i] := by
      intro ps
      induction ps with
      | nil => intro rs h; unfold ruleRows at h; injection h with h; subst h; exact ⟨rfl, fun i h => absurd h (by simp)⟩
      | cons p ps ih =>
        intro rs h
        unfold ruleRows at h
        cases e1 : ruleRow TT p with
        | none => rw [e1] at h; cases h
        | some x =>
          cases e2 : ruleRows TT ps with
          | none => rw [e1, e2] at h; cases h
          | some xs =>
            rw [e1, e2] at h
            injection h with h
            subst h
            obtain ⟨a1, a2⟩ := ih xs e2
            refine ⟨by simp [a1], fun i h h' => ?_⟩
            cases i with
            | zero => exact e1
            | succ i => exact a2 i (by simpa using h) (by simpa using h')
    obtain ⟨hrl, hrr⟩ := hrows _ _ hrw
    clear hrows hrw
    refine ⟨_, rfl, _, rfl, l, m, L, mix, n, a, b, c, TT, rfl, hl, hB, hm, n0, hn, hT, fun H1 q kn pp s1 hq hkn hpp => ?_⟩
    refine ⟨q, _, rfl, SqT.of hq, rfl, _, _, rfl, _, _, rfl, rfl, ?_⟩
    refine ⟨by show 0 ≤ sizeLine; decide, fun eq neq => ?_⟩
    obtain ⟨pxs, hp1, hp2, hp3⟩ := id hpp
    have seq := same_new (o := .lst []) neq
    have keepQ : ∀ (Hc : Hp) (ob : HO), Same H1 Hc → Same H1 (upd Hc eq ob) := fun Hc ob s' y oy hy => by
      rw [upd_ne (by intro z; rw [z, neq] at hy; cases hy)]; exact s' _ _ hy
    refine ⟨_, rfl, pp, rfl, ⟨_, SqL.of (seq _ _ hp1)⟩, for_it (walk_list (xs := pxs)) (fun i σ Hc => Same H1 Hc ∧ ∃ (es : List V) (y5 y6 y7 y8 y9 y10 y11 y12 : Option V), Hc eq = some (.lst es) ∧ es.length = i ∧ DpAll K Hc es ((rows.take i).map fun r => .tuple [.tuple (r.1.map pairD), .tuple (r.2.map pairD)]) ∧
      σ = [some (.ref l), some (.ref m), some (.ref kn), some (.ref pp), some (.ref eq), y5, y6, y7, y8, y9, y10, y11, y12]) ⟨seq, [], _, _, _, _, _, _, _, _, upd_same, rfl, .nil, rfl⟩ (fun i σ Hc _ hP => SqL.of (hP.1 _ _ hp1)) ?_ ?_⟩
    · rintro i x σ Hc Hc' hi ⟨hsc, es, y5, y6, y7, y8, y9, y10, y11, y12, he1, he2, he3, rfl⟩ ⟨rfl, hx⟩
      have hi2 : i < TT.parts.length := by omega
      have hi3 : i < rows.length := by omega
      have ex : x = pxs[i] := by rw [List.getElem?_eq_getElem hi] at hx; injection hx with hx; exact hx.symm
      have hpx := (hp3 i hi hi2).same hsc
      rw [← ex] at hpx
      have hrow := hrr i hi2 hi3
      have hok := hpok _ (List.getElem_mem hi2)
      generalize TT.parts[i] = pt at *
      obtain ⟨tp, mp, rfl, htp, hmp⟩ := hpx
      unfold ruleRow at hrow
      cases hev : lookKnown TT.known (pt.1 + 1, pt.2.1) with
      | none => rw [hev] at hrow; cases hrow
      | some fe =>
      cases hod : lookKnown TT.known (pt.1 + 1, pt.2.1 + 2 ^ pt.1) with
      | none => rw [hev, hod] at hrow; cases hrow
      | some fo =>
      rw [hev, hod] at hrow
      injection hrow with hrow
      obtain ⟨kvs, hk1, hk2, hk3⟩ := hkn.same hsc
      obtain ⟨be, hbe1, hbe2⟩ := hk3 _ _ _ hev
      obtain ⟨bo, hbo1, hbo2⟩ := hk3 _ _ _ hod
      have c1 : ((pt.1 : Int) + 1) = ((pt.1 + 1 : Nat) : Int) := by omega
      have c2 : ((pt.2.1 : Int) + 2 ^ pt.1) = ((pt.2.1 + 2 ^ pt.1 : Nat) : Int) := by rw [Int.natCast_add, Int.natCast_pow]; rfl
      refine ⟨tp, _, rfl, htp, rfl, _, _, rfl, _, _, rfl, _, _, rfl, rfl, ?_⟩
      refine ⟨_, rfl, _, rfl, _, _, rfl, rfl, _, rfl, by show 2 ≤ sizeLine; decide, fun kt nkt => ⟨kn, .ref be, rfl, ?_, ?_⟩⟩
      · rw [← hbe1]
        refine DGet.t (same_new nkt _ _ hk1) ?_
        rw [upd_same]
        show some (HO.tup [V.int ((pt.1 : Int) + 1), V.int (pt.2.1 : Int)]) = _
        rw [c1]; rfl
      have s2 := same_new (o := .tup [(fun i j => V.int (i + j)) (pt.1 : Int) 1, V.int (pt.2.1 : Int)]) nkt
      refine ⟨_, rfl, _, rfl, _, _, rfl, rfl, _, rfl, _, rfl, pt.1, rfl, rfl, by have := hok.2; omega, _, _, rfl, rfl, by show 2 ≤ sizeLine; decide, fun kt2 nkt2 => ⟨kn, .ref bo, rfl, ?_, ?_⟩⟩
      · rw [← hbo1]
        refine DGet.t (same_new nkt2 _ _ (s2 _ _ hk1)) ?_
        rw [upd_same]
        show some (HO.tup [V.int ((pt.1 : Int) + 1), V.int ((pt.2.1 : Int) + 2 ^ pt.1)]) = _
        rw [c1, c2]; rfl
      have s3 := s2.trans (same_new (o := .tup [(fun i j => V.int (i + j)) (pt.1 : Int) 1, (fun i j => V.int (i + j)) (pt.2.1 : Int) (2 ^ pt.1)]) nkt2)
      generalize (upd (upd Hc' kt (.tup [(fun i j => V.int (i + j)) (pt.1 : Int) 1, V.int (pt.2.1 : Int)])) kt2 (.tup [(fun i j => V.int (i + j)) (pt.1 : Int) 1, (fun i j => V.int (i + j)) (pt.2.1 : Int) (2 ^ pt.1)])) = H3 at *
      have hp13 := s3 _ _ (hsc _ _ hp1)
      refine ⟨_, rfl, .inl ⟨rfl, _, SqL.of (s3 _ _ he1)⟩, _, rfl, _, rfl, pp, _, rfl, .inl (SqL.of hp13), be, fe, TT.parts.length, by rw [hp2]; rfl, hbe2.same s3, by omega, fun H4 p4 s4 np4 hp4 => ?_⟩
      refine ⟨_, rfl, _, rfl, pp, _, rfl, .inl (SqL.of (s4 _ _ hp13)), bo, fo, TT.parts.length, by rw [hp2]; rfl, (hbo2.same s3).same s4, by omega, fun H5 p5 s5 np5 hp5 => ?_⟩
      refine ⟨by show 2 ≤ sizeLine; decide, fun te nte => ?_⟩
      have s6 := same_new (o := .tup [.ref p4, .ref p5]) nte
      have s36 := ((s3.trans s4).trans s5).trans s6
      have heq6 := s36 _ _ he1
      have net : te ≠ eq := by intro z; have := s5 _ _ (s4 _ _ (s3 _ _ he1)); rw [← z, nte] at this; cases this
      refine ⟨eq, es, .ref te, rfl, rfl, heq6, small1000 (by omega), keepQ _ _ (hsc.trans s36), es ++ [.ref te], _, _, _, _, _, _, _, _, upd_same, by simp [he2], ?_, rfl⟩
      have k6 : KeepD (upd H5 te (.tup [.ref p4, .ref p5])) (upd (upd H5 te (.tup [.ref p4, .ref p5])) eq (.lst (es ++ [.ref te]))) := keepD_lst heq6
      have rt : ∀ r : List (Int × Int) × List (Int × Int), tupOnly (.tuple [.tuple (r.1.map pairD), .tuple (r.2.map pairD)]) = true := fun r => by
        simp [tupOnly, tupsOnly, tupsOnly_map pairD pairD_tup]
      rw [List.take_succ_eq_append_getElem hi3, List.map_append, ← hrow]
      refine dpAll_snoc (dp_keep k6 (rt _) ?_) (dpAll_keep k6 (tupsOnly_map _ rt _) (dpAll_same s36 he3))
      exact .tup (SqT.of upd_same) (.cons (dp_same (s5.trans s6) hp4) (.cons (dp_same s6 hp5) .nil))
    · rintro σ Hc ⟨hsc, es, y5, y6, y7, y8, y9, y10, y11, y12, he1, he2, he3, rfl⟩
      have etk : rows.take pxs.length = rows := by rw [hp2, ← hrl, List.take_length]
      rw [etk] at he3
      have hp1c := hsc _ _ hp1
      -- basis
      refine ⟨_, rfl, pp, rfl, ⟨_, SqL.of hp1c⟩, fun D nD => ?_⟩
      refine lc_out (walk_list (xs := pxs)) (fun i Hk => Same Hc Hk ∧ ∃ bs : List V, Hk D = some (.lst bs) ∧ bs.length = i ∧ DpAll K Hk bs ((TT.parts.take i).map fun p => .tuple [.int (p.1 : Int), .int (p.2.1 : Int)])) ⟨same_new nD, [], upd_same, rfl, .nil⟩ (fun i Hk _ hP => SqL.of (hP.1 _ _ hp1c)) ?_ ?_
      · rintro i x Hk Hk' hi ⟨hsk, bs, hb1, hb2, hb3⟩ ⟨rfl, hx⟩
        have hi2 : i < TT.parts.length := by omega
        have ex : x = pxs[i] := by rw [List.getElem?_eq_getElem hi] at hx; injection hx with hx; exact hx.symm
        have hpx := ((hp3 i hi hi2).same hsc).same hsk
        rw [← ex] at hpx
        have egt : TT.parts.take (i + 1) = TT.parts.take i ++ [TT.parts[i]] := List.take_succ_eq_append_getElem hi2
        generalize TT.parts[i] = pt at *
        obtain ⟨tp, mp, rfl, htp, hmp⟩ := hpx
        refine ⟨tp, _, rfl, htp, rfl, _, _, rfl, _, _, rfl, _, _, rfl, rfl, rfl, ?_⟩
        refine ⟨_, rfl, _, rfl, by show 2 ≤ sizeLine; decide, fun t2 nt2 => ?_⟩
        have s2 := same_new (o := .tup [.int (pt.1 : Int), .int (pt.2.1 : Int)]) nt2
        have hD2 := s2 _ _ hb1
        refine ⟨bs, hD2, small1000 (by omega), fun y oy hy => ?_, bs ++ [.ref t2], upd_same, by simp [hb2], ?_⟩
        · rw [upd_ne (by intro z; rw [z, nD] at hy; cases hy)]; exact s2 _ _ (hsk _ _ hy)
        · rw [egt, List.map_append]
          have bt : ∀ p : PartM, tupOnly (.tuple [.int (p.1 : Int), .int (p.2.1 : Int)]) = true := fun p => rfl
          exact dpAll_snoc (dp_keep (keepD_lst hD2) (bt pt) (.tup (SqT.of upd_same) (.cons (.int _) (.cons (.int _) .nil)))) (dpAll_keep (keepD_lst hD2) (tupsOnly_map _ bt _) (dpAll_same s2 hb3))
      rintro Hk ⟨hsk, bs, hb1, hb2, hb3⟩
      have etp : TT.parts.take pxs.length = TT.parts := by rw [hp2, List.take_length]
      rw [etp] at hb3
      refine ⟨D, bs, rfl, .inl ⟨SqL.of hb1, fun bt nbt => ?_⟩⟩
      have sbt := same_new (o := .tup bs) nbt
      have hB2 : Dp K (upd Hk bt (.tup bs)) (.ref bt) (basisD ⟨TT.parts.map fun p => (p.1, p.2.1), rows, TT.parts.map fun p => sumOf p.2.2 L.starts⟩) := by
        refine .tup (SqT.of upd_same) ?_
        show DpAll K _ bs (List.map _ (List.map _ _))
        rw [List.map_map]
        exact dpAll_same sbt hb3
      have s7 := hsk.trans sbt
      have hp17 := s7 _ _ hp1c
      have he17 := s7 _ _ he1
      have he37 := dpAll_same s7 he3
      have hs7 := hsc.trans s7
      have hl7 := hl.same (s1.trans hs7)
      generalize (upd Hk bt (.tup bs)) = H7 at *
      -- firsts
      refine ⟨_, rfl, pp, rfl, ⟨_, SqL.of hp17⟩, fun D2 nD2 => ?_⟩
      refine lc_out (walk_list (xs := pxs)) (fun i Hk => Same H7 Hk ∧ Hk D2 = some (.lst ((TT.parts.take i).map fun p => V.int (sumOf p.2.2 L.starts)))) ⟨same_new nD2, by rw [upd_same]; rfl⟩ (fun i Hk _ hP => SqL.of (hP.1 _ _ hp17)) ?_ ?_
      · rintro i x Hk Hk' hi ⟨hsk, hb1⟩ ⟨rfl, hx⟩
        have hi2 : i < TT.parts.length := by omega
        have ex : x = pxs[i] := by rw [List.getElem?_eq_getElem hi] at hx; injection hx with hx; exact hx.symm
        have hpx := ((hp3 i hi hi2).same hs7).same hsk
        rw [← ex] at hpx
        have egt : TT.parts.take (i + 1) = TT.parts.take i ++ [TT.parts[i]] := List.take_succ_eq_append_getElem hi2
        have hok := hpok _ (List.getElem_mem hi2)
        generalize TT.parts[i] = pt at *
        obtain ⟨tp, mp, rfl, htp, hmp⟩ := hpx
        refine ⟨tp, _, rfl, htp, rfl, _, _, rfl, _, _, rfl, _, _, rfl, rfl, rfl, ?_⟩
        have s07 := s1.trans (hs7.trans hsk)
        refine ⟨_, rfl, _, rfl, l, C, dx, _, _, rfl, s07 _ _ h1, T.cl, T.ns, lineF_s t st, mp, st, pt.2.2, L.starts, n, b, rfl, hmp, s07.seq h5, hok.1.nd, hok.1.lt, hok.1.len, hok.1.sm, hB.st, n0, hB.b0, by have := hB.bl; omega, fun H8 s8 => ?_⟩
        have hD8 := s8 _ _ hb1
        refine ⟨_, hD8, small1000 (by simp; omega), fun y oy hy => ?_, ?_⟩
        · rw [upd_ne (by intro z; rw [z, nD2] at hy; cases hy)]; exact s8 _ _ (hsk _ _ hy)
        · rw [upd_same, egt, List.map_append]; rfl
      rintro Hk ⟨hsk, hb1⟩
      rw [etp] at hb1
      refine ⟨D2, _, rfl, .inl ⟨SqL.of hb1, fun ft nft => ?_⟩⟩
      have sft := same_new (o := .tup (TT.parts.map fun p => V.int (sumOf p.2.2 L.starts))) nft
      have s8 := hsk.trans sft
      have hF : Dp K (upd Hk ft (.tup (TT.parts.map fun p => V.int (sumOf p.2.2 L.starts)))) (.ref ft) (firstsD ⟨TT.parts.map fun p => (p.1, p.2.1), rows, TT.parts.map fun p => sumOf p.2.2 L.starts⟩) := by
        refine .tup (SqT.of upd_same) ?_
        show DpAll K _ _ (List.map _ (List.map _ _))
        rw [List.map_map]
        have hinD : ∀ (Hq : Hp) (ps : List PartM), DpAll K Hq (ps.map fun p => V.int (sumOf p.2.2 L.starts)) (ps.map (PyData.int ∘ fun p => sumOf p.2.2 L.starts)) := fun Hq ps => by
          induction ps with
          | nil => exact .nil
          | cons p ps ih => exact .cons (.int _) ih
        exact hinD _ _
      generalize (upd Hk ft (.tup (TT.parts.map fun p => V.int (sumOf p.2.2 L.starts)))) = H8 at *
      refine ⟨_, rfl, _, rfl, eq, es, rfl, .inl ⟨SqL.of (s8 _ _ he17), fun et net => ?_⟩⟩
      have set' := same_new (o := .tup es) net
      refine ⟨_, rfl, by show 3 ≤ sizeLine; decide, fun qq nqq => ?_⟩
      have s9 := set'.trans (same_new (o := .tup [.ref bt, .ref et, .ref ft]) nqq)
      refine k _ qq bt et ft ((s1.trans (hs7.trans s8)).trans s9) upd_same (dp_same (s8.trans s9) hB2) ?_ (dp_same s9 hF)
      exact dp_same (same_new nqq) (.tup (SqT.of upd_same) (dpAll_same (s8.trans set') he37))
end
end L2.EH
end S_L10
section S_C2
set_option maxRecDepth 100000
set_option maxHeartbeats 4000000
namespace L2.EH
open PySem PySem.Spec PyProof.Rows StX
/-- the call's node where the callee is an instance, with keywords -/
theorem callO_ofK {M : Model} {A : Around} {E : Value → Shared → Prop} {s : Shared} {a : Addr} {pos : Pos} {Q : Value → Shared → Prop} {args : List (Bool × Sem Value)} {kws : List (Option Str × Sem Value)} (hplain : (args.any (·.1) || kws.any (·.1.isNone)) = false)
    (h : wpAny M A (evalArgs (.ref a) true args kws) (fun z s₁ => (∃ C ox od, PySem.W.InstAt s₁.heap a ox C od ∧ ox.data = .plain) ∧ wpAny M A (call (.ref a) ([] ++ z.pos) z.kw) Q E s₁) E s) : wpAny M A (callWith pos (.ref a) [] args kws) Q E s := by
  unfold callWith
  refine wpAny_bind (wpAny_holding (wpAny_mono h (fun z s₁ h₁ => wpAny_bind (wpAny_standAt ?_)) fun _ _ y => y))
  obtain ⟨⟨C, ox, od, J, hd⟩, h₁⟩ := h₁
  have L := PySem.W.kco_keeper (M := M) J hd
  simp only [hplain]
  refine wpAny_bind (L.here ?_)
  have tail : ∀ {t : Sem Value}, wpAny M A t Q E s₁ → wpAny M A (t >>= fun r => holding [r] point >>= fun _ => pure r) Q E s₁ :=
    fun ht => wpAny_bind (wpAny_mono ht (fun r s₂ hr => wpAny_bind (wpAny_holding (wpAny_point (wpAny_pure hr)))) fun _ _ y => y)
  exact tail (wpAny_operateT h₁)
section
variable {X : Cx} {CX : CXT} {k : Nat} {f C g0 : Addr} {fd : FuncData} {ps ks : List Str} {sp : Sp} {E : XK} {x : Str} {p pos : Pos} {kws : List Keyword} {tk : TA} {g : List Value → List Value → List Value} {gV : List V → List V → List V}
/-- f(k = v, ..) -/
theorem pe_callK0 (F : FnOk X.prog X.w X.K X.mg X.base CX k f fd ps sp) (hr : Room k X.A) (hg : Gl X x) (hm : X.mg x = some (.ref f)) (hk : PySem.W.keepIn X.K (.ref f) = true) (hb : KBinds X.K fd ps ks g gV) (hx : Passes CX X E)
    (hkw : PK X kws tk) (hall : (backToKw pos (keywordEach kws X.env)).all (·.1.isSome) = true := by rfl) (hks : (backToKw pos (keywordEach kws X.env)).filterMap (·.1) = ks := by rfl)
    (hdb : (x == ("__debug__" : Str)) = false := by decide) (hpl : ((backTo pos (starEach [] X.env)).any (·.1) || (backToKw pos (keywordEach kws X.env)).any (·.1.isNone)) = false := by rfl) :
    PE X (.Call (.Name x p) [] kws pos) (fun σ H Q => tk σ H fun zs H2 => sp (gV [] zs) H2 Q E) := by
  refine ⟨fun pins s σ H Q I h => ?_⟩
  refine wpAny_Call_Name_kw (ld_glob I hg hm ?_ hdb)
  refine PySem.W.callWith_KW0 (h₀ := X.base) I.ok.mod.kin hk hall (thn (hkw.run pos pins s σ H _ I h) fun ws s2 ⟨zs, H2, I2, rz, q2⟩ => ⟨I2.kIn, ?_⟩) hpl
  rw [hks]
  exact run_fnk F hr hb hx I2 .nil rz q2
/-- o(k = v, ..), o an instance -/
theorem pe_callOK {fe : Expr} {tf : TE} (hf : PE X fe tf) (c : CallO X.K C f) (F : FnOk X.prog X.w X.K X.mg X.base CX k f fd ps sp) (hr : Room k X.A) (hb : KBinds X.K fd ps ks g gV) (hx : Passes CX X E) (hkw : PK X kws tk)
    (ht : eval (.Call fe [] kws pos) X.env = (do callWith pos (← eval fe X.env) [] (backTo pos (starEach [] X.env)) (backToKw pos (keywordEach kws X.env))) := by rfl)
    (hall : (backToKw pos (keywordEach kws X.env)).all (·.1.isSome) = true := by rfl) (hks : (backToKw pos (keywordEach kws X.env)).filterMap (·.1) = ks := by rfl)
    (hpl : ((backTo pos (starEach [] X.env)).any (·.1) || (backToKw pos (keywordEach kws X.env)).any (·.1.isNone)) = false := by rfl) :
    PE X (.Call fe [] kws pos) (fun σ H Q => tf σ H fun y H1 => ∃ a, y = V.ref a ∧ tk σ H1 fun zs H2 => InsC X H2 a C ∧ sp (gV [V.ref a] zs) H2 Q E) := by
  refine ⟨fun pins s σ H Q I h => ?_⟩
  rw [ht]
  refine wpAny_bind (thn (hf.run pins s σ H _ I h) fun u s1 ⟨y, H1, I1, ry, a, ey, q⟩ => ?_)
  subst ey
  obtain rfl : u = Value.ref a := ry
  refine callO_ofK hpl (PyProof.Rows.evalArgs_kw2_nil hall (thn (hkw.run pos pins s1 σ H1 _ I1 q) fun ws s2 ⟨zs, H2, I2, rz, hi, q2⟩ => ?_))
  obtain ⟨ox, od, J, hd⟩ := insC_at I2 hi
  refine ⟨⟨C, ox, od, J, hd⟩, ?_⟩
  rw [hks]
  refine wpAny_call (PySem.W.kco_code I2.kIn J hd c.at_ c.fn c.fi ?_)
  have r2 := hb.rel (vs := [V.ref a]) (us := [Value.ref a]) (.cons rfl .nil) rz
  have hl : (g [Value.ref a] ws).length = ps.length := by rw [← r2.length]; exact F.len _ _ _ _ q2
  refine codeAny_mono (F.run X.A X.stack s2 H2 ⟨[.ref a], ks.zip ws⟩ (g [.ref a] ws) (gV [.ref a] zs) Q E hr I2.env0 (hb.to s2 [.ref a] ws I2.kIn hl) r2 q2) fun r s' hq => ?_
  cases r with
  | error e => exact hx pins σ H2 s2 e s' I2 hq
  | ok fl =>
    cases fl with
    | ret u => exact I2.after hq
    | next => exact False.elim hq
    | brk => exact False.elim hq
    | cont => exact False.elim hq
end
end L2.EH
end S_C2
section S_L11
set_option maxRecDepth 100000
set_option maxHeartbeats 4000000
namespace L2.EH
open PySem PySem.Spec PyProof.Rows StX
open L2.Halves (has keys Clean sumOf stepped Small WLines WOk vat Rule)
/-! ### checks -/
structure NmC (mg : Str → Option Value) : Prop where
  isinst : mg "isinstance" = none
  int : mg "int" = none
  bool : mg "bool" = none
def spIsInt : Sp := fun vs H Q _ => ∃ z : Int, vs = [.int z] ∧ Q (.bl true) H
def spBetween : Sp := fun vs H Q _ => ∃ z lo hi : Int, vs = [.int z, .int lo, .int hi] ∧ Q (.bl (decide (lo ≤ z ∧ z ≤ hi))) H
def spIsNumber : Sp := fun vs H Q _ => ∃ z : Int, vs = [.int z] ∧ Q (.bl (decide (0 ≤ z ∧ z ≤ big))) H
theorem scIsInt : FnScope ["value"] ["value"] (defScope sIsInteger) := ⟨rfl, rfl, rfl, by decide +kernel, rfl, by decide +kernel, by decide +kernel⟩
theorem scBetween : FnScope ["value", "low", "high"] ["value", "low", "high"] (defScope sIsBetween) := ⟨rfl, rfl, rfl, by decide +kernel, rfl, by decide +kernel, by decide +kernel⟩
theorem scIsNumber : FnScope ["value"] ["value"] (defScope sIsNumber) := ⟨rfl, rfl, rfl, by decide +kernel, rfl, by decide +kernel, by decide +kernel⟩
section
variable {P : Program} {w : World} {K : PySem.W.Frag} {mg : Str → Option Value} {base : Heap}
theorem ok_isInt {f : Addr} {fd : FuncData} (F : Fun K "is_integer" "is_integer" sIsInteger f fd) (B : NmC mg) : FnOk P w K mg base CX0 1 f fd ["value"] spIsInt := by
  refine F.ok scIsInt (fun vs H Q E h => ?_) (fun cdv A outer s H vs Q E hr h => ?_)
  · obtain ⟨z, rfl, _⟩ := h
    rfl
  · obtain ⟨z, rfl, k⟩ := h
    refine ⟨_, pss_one (ps_ret (pe_and (pe_callB call_isi (by rfl) B.isinst (by decide +kernel) (pa_cons (pv 0) (pa_cons (pe_bltn (v := .ty "int") (by rfl) B.int (by decide +kernel) rfl) pa_nil)))
      (pe_one (pe_not (pe_callB call_isi (by rfl) B.isinst (by decide +kernel) (pa_cons (pv 0) (pa_cons (pe_bltn (v := .ty "bool") (by rfl) B.bool (by decide +kernel) rfl) pa_nil)))))) ), ?_⟩
    refine ⟨_, rfl, _, _, .type "int", .type "int", true, rfl, .ty _, .base (.int _), kit_ty (by decide +kernel), _, rfl, ?_⟩
    refine iteT ⟨_, rfl, _, _, .type "int", .type "bool", false, rfl, .ty _, .base (.int _), kit_ty (by decide +kernel), _, rfl, ?_⟩
    exact k
theorem ok_between {f fI : Addr} {fd fdI : FuncData} (F : Fun K "is_between" "is_between" sIsBetween f fd) (FI : Fn' P w K mg base 1 "is_integer" fI fdI ["value"] spIsInt) : FnOk P w K mg base CX0 2 f fd ["value", "low", "high"] spBetween := by
  refine F.ok scBetween (fun vs H Q E h => ?_) (fun cdv A outer s H vs Q E hr h => ?_)
  · obtain ⟨z, lo, hi, rfl, _⟩ := h
    rfl
  · obtain ⟨z, lo, hi, rfl, k⟩ := h
    refine ⟨_, pss_one (ps_ret (pe_and (pe_call FI.ok hr rfl FI.m FI.k FI.b .nil pass0 (pa_cons (pv 0) pa_nil)) (pe_one (pe_chain op_le op_le (pv 1) (pv 0) (pv 2))))), ?_⟩
    refine ⟨_, rfl, z, rfl, _, rfl, iteT ⟨_, rfl, _, rfl, _, _, rfl, rfl, _, rfl, ?_⟩⟩
    by_cases h : lo ≤ z
    · rw [decide_eq_true h]
      refine iteT ⟨_, rfl, _, _, rfl, rfl, ?_⟩
      have e : decide (lo ≤ z ∧ z ≤ hi) = decide (z ≤ hi) := by simp [h]
      rw [e] at k; exact k
    · rw [decide_eq_false h]
      refine iteF ?_
      have e : decide (lo ≤ z ∧ z ≤ hi) = false := by simp [h]
      rw [e] at k; exact k
theorem ok_isNumber {f fB : Addr} {fd fdB : FuncData} {tB : Tok} (F : Fun K "is_number" "is_number" sIsNumber f fd) (hL : mg "LARGEST" = some (.int big tB)) (FB : Fn' P w K mg base 2 "is_between" fB fdB ["value", "low", "high"] spBetween) : FnOk P w K mg base CX0 3 f fd ["value"] spIsNumber := by
  refine F.ok scIsNumber (fun vs H Q E h => ?_) (fun cdv A outer s H vs Q E hr h => ?_)
  · obtain ⟨z, rfl, _⟩ := h
    rfl
  · obtain ⟨z, rfl, k⟩ := h
    generalize hb : big = L at hL k
    refine ⟨_, pss_one (ps_ret (pe_call FB.ok hr rfl FB.m FB.k FB.b .nil pass0 (pa_cons (pv 0) (pa_cons pe_int (pa_cons (pe_glob (v := .int L) rfl hL ⟨_, rfl⟩) pa_nil))))), ?_⟩
    exact ⟨_, rfl, z, 0, L, rfl, k⟩
end
end L2.EH
end S_L11
section S_L12
set_option maxRecDepth 100000
set_option maxHeartbeats 4000000
namespace L2.EH
open PySem PySem.Spec PyProof.Rows StX
open L2.Halves (has keys Clean sumOf stepped Small WLines WOk vat Rule)
def spLinesInit (C : Addr) : Sp := fun vs H Q _ => ∃ (p dx e o s : Addr), vs = [.ref p, .ref e, .ref o, .ref s] ∧ H p = some (.ins C dx []) ∧
  ∀ (t : Addr) (H' : Hp), H t = none → H' t = some (.tup [.ref e, .ref o]) → H' p = some (.ins C dx (lineF t s)) → (∀ b q, H b = some q → b ≠ p → H' b = some q) → Q .non H'
theorem scLinesInit : FnScope ["self", "evens", "odds", "starts"] ["self", "evens", "odds", "starts"] (defScope sLinesInit) := ⟨rfl, rfl, rfl, by decide +kernel, rfl, by decide +kernel, by decide +kernel⟩
def fnF (l m b e f : Addr) : List (Str × V) := putF "_firsts" (.ref f) (putF "_equations" (.ref e) (putF "_basis" (.ref b) (putF "mix" (.ref m) (putF "lines" (.ref l) []))))
theorem fnF_l (l m b e f : Addr) : (fnF l m b e f).lookup ("lines" : Str) = some (V.ref l) := by
  unfold fnF
  rw [lookup_putF, if_neg (by decide +kernel), lookup_putF, if_neg (by decide +kernel), lookup_putF, if_neg (by decide +kernel), lookup_putF, if_neg (by decide +kernel), lookup_putF, if_pos rfl]
theorem fnF_m (l m b e f : Addr) : (fnF l m b e f).lookup ("mix" : Str) = some (V.ref m) := by
  unfold fnF
  rw [lookup_putF, if_neg (by decide +kernel), lookup_putF, if_neg (by decide +kernel), lookup_putF, if_neg (by decide +kernel), lookup_putF, if_pos rfl]
theorem fnF_b (l m b e f : Addr) : (fnF l m b e f).lookup ("_basis" : Str) = some (V.ref b) := by
  unfold fnF
  rw [lookup_putF, if_neg (by decide +kernel), lookup_putF, if_neg (by decide +kernel), lookup_putF, if_pos rfl]
theorem fnF_e (l m b e f : Addr) : (fnF l m b e f).lookup ("_equations" : Str) = some (V.ref e) := by
  unfold fnF
  rw [lookup_putF, if_neg (by decide +kernel), lookup_putF, if_pos rfl]
theorem fnF_f (l m b e f : Addr) : (fnF l m b e f).lookup ("_firsts" : Str) = some (V.ref f) := by
  unfold fnF
  rw [lookup_putF, if_pos rfl]
theorem putF_len {n : Nat} {f : Str} {v : V} {fs : List (Str × V)} (h : fs.length ≤ n) : (putF f v fs).length ≤ n + 1 := by
  have := length_putF f v fs; omega
/-! ### data that == reads -/
def Sh (n : Nat) (d : PyData) : Prop := d.canLay0 = true ∧ d.depth ≤ n
theorem sh_all {n : Nat} : ∀ {ds : List PyData}, (∀ d, d ∈ ds → Sh n d) → PyData.canLayAll0 ds = true ∧ PyData.depthAll ds ≤ n
  | [], _ => ⟨rfl, Nat.zero_le _⟩
  | d :: ds, h => by
    have h1 := h d (by simp)
    have h2 := sh_all (ds := ds) (fun x hx => h x (by simp [hx]))
    refine ⟨?_, ?_⟩
    · simp only [PyData.canLayAll0, Bool.and_eq_true]; exact ⟨h1.1, h2.1⟩
    · simp only [PyData.depthAll]; exact Nat.max_le.2 ⟨h1.2, h2.2⟩
theorem sh_tup {n : Nat} {ds : List PyData} (h : ∀ d, d ∈ ds → Sh n d) : Sh (n + 1) (.tuple ds) := by
  have := sh_all h
  exact ⟨by simp only [PyData.canLay0]; exact this.1, by simp only [PyData.depth]; omega⟩
theorem sh_lst {n : Nat} {ds : List PyData} (h : ∀ d, d ∈ ds → Sh n d) : Sh (n + 1) (.list ds) := by
  have := sh_all h
  exact ⟨by simp only [PyData.canLay0]; exact this.1, by simp only [PyData.depth]; omega⟩
theorem sh_int (n : Nat) (i : Int) : Sh n (.int i) := ⟨rfl, Nat.zero_le _⟩
theorem Sh.shaped {n : Nat} {d : PyData} (h : Sh n d) (hn : n ≤ 64) : SeqAt.shaped d = true := by
  unfold SeqAt.shaped
  rw [Bool.and_eq_true]
  exact ⟨h.1, decide_eq_true (Nat.le_trans h.2 hn)⟩
theorem sh_pair (n : Nat) (p : Int × Int) : Sh (n + 1) (pairD p) := sh_tup fun d hd => by
  simp only [List.mem_cons, List.not_mem_nil, or_false] at hd
  rcases hd with rfl | rfl <;> exact sh_int _ _
theorem sh_basis (R : Rule) : Sh 2 (basisD R) := sh_tup fun d hd => by
  obtain ⟨p, _, rfl⟩ := List.mem_map.1 hd
  exact sh_tup fun d hd => by
    simp only [List.mem_cons, List.not_mem_nil, or_false] at hd
    rcases hd with rfl | rfl <;> exact sh_int _ _
theorem sh_rows (R : Rule) : Sh 4 (rowsD R) := sh_tup fun d hd => by
  obtain ⟨r, _, rfl⟩ := List.mem_map.1 hd
  exact sh_tup fun d hd => by
    simp only [List.mem_cons, List.not_mem_nil, or_false] at hd
    rcases hd with rfl | rfl <;> exact sh_tup fun d hd => by
      obtain ⟨p, _, rfl⟩ := List.mem_map.1 hd
      exact sh_pair 0 p
theorem sh_firsts (R : Rule) : Sh 1 (firstsD R) := sh_tup fun d hd => by
  obtain ⟨p, _, rfl⟩ := List.mem_map.1 hd
  exact sh_int _ _
/-- the class of functions -/
structure HalvedC (K : PySem.W.Frag) (C : Addr) : Prop where
  cl : Cls K C
  nl : NoAttr K C "lines"
  nm : NoAttr K C "mix"
  nb : NoAttr K C "_basis"
  ne : NoAttr K C "_equations"
  nf : NoAttr K C "_firsts"
  ha : PySem.W.findIn K (.ref C) "__class__" = some (some (.builtin "object.__class__"))
  hn : PySem.W.specialIn K (.builtin "object.__class__") "__get__" = some (some (.builtin "getset_descriptor.__get__"))
  ht : PySem.W.takesIn K (.builtin "object.__class__") = some true
  hm : PySem.W.mroIn K C (.type "object") = some true
  hk : PySem.W.kitOne K (.ref C) (.ref C) = some true
def spHInit (C : Addr) : Sp := fun vs H Q _ => ∃ (p dx l m t b e f : Addr), vs = [.ref p, .ref l, .ref m, .ref t] ∧ H p = some (.ins C dx []) ∧ H t = some (.tup [.ref b, .ref e, .ref f]) ∧
  ∀ (H' : Hp), H' p = some (.ins C dx (fnF l m b e f)) → (∀ b q, H b = some q → b ≠ p → H' b = some q) → Q .non H'
theorem scHInit : FnScope ["self", "lines", "mix", "told"] ["self", "lines", "mix", "told"] (defScope sHInit) := ⟨rfl, rfl, rfl, by decide +kernel, rfl, by decide +kernel, by decide +kernel⟩
/-- a function at a: its lines, its mix, its least rule -/
structure FnAt (K : PySem.W.Frag) (CL CH : Addr) (H : Hp) (a : Addr) (L : WLines) (mix : Halves.Row) (R : Rule) : Prop where
  ex : ∃ dx l m b e f, H a = some (.ins CH dx (fnF l m b e f)) ∧ LinesAt K CL H l L ∧ H m = some (.dK (rowK mix)) ∧ Dp K H (.ref b) (basisD R) ∧ Dp K H (.ref e) (rowsD R) ∧ Dp K H (.ref f) (firstsD R)
theorem FnAt.same {K : PySem.W.Frag} {CL CH : Addr} {H H' : Hp} {a : Addr} {L : WLines} {mix : Halves.Row} {R : Rule} (h : FnAt K CL CH H a L mix R) (s : Same H H') : FnAt K CL CH H' a L mix R := by
  obtain ⟨dx, l, m, b, e, f, h1, h2, h3, h4, h5, h6⟩ := h.ex
  exact ⟨dx, l, m, b, e, f, s _ _ h1, h2.same s, s _ _ h3, dp_same s h4, dp_same s h5, dp_same s h6⟩
/-- the promise of a property that is read: the thing under its name -/
def spGet (C : Addr) (f : Str) : Sp := fun vs H Q _ => ∃ (a dx : Addr) (fs : List (Str × V)) (v : V), vs = [.ref a] ∧ H a = some (.ins C dx fs) ∧ fs.lookup f = some v ∧ Q v H
def spRank (K : PySem.W.Frag) (C : Addr) : Sp := fun vs H Q _ => ∃ (a dx b : Addr) (fs : List (Str × V)) (xs : List V), vs = [.ref a] ∧ H a = some (.ins C dx fs) ∧ fs.lookup ("_basis" : Str) = some (V.ref b) ∧ SqT K H b xs ∧ Q (.int (xs.length : Int)) H
theorem scHRank : FnScope ["self"] ["self"] (defScope sHRank) := ⟨rfl, rfl, rfl, by decide +kernel, rfl, by decide +kernel, by decide +kernel⟩
theorem scHBasis : FnScope ["self"] ["self"] (defScope sHBasis) := ⟨rfl, rfl, rfl, by decide +kernel, rfl, by decide +kernel, by decide +kernel⟩
theorem scHEq : FnScope ["self"] ["self"] (defScope sHEquations) := ⟨rfl, rfl, rfl, by decide +kernel, rfl, by decide +kernel, by decide +kernel⟩
theorem scHFirsts : FnScope ["self"] ["self"] (defScope sHFirsts) := ⟨rfl, rfl, rfl, by decide +kernel, rfl, by decide +kernel, by decide +kernel⟩
theorem scHCall : FnScope ["self", "n"] ["self", "n"] (defScope sHCall) := ⟨rfl, rfl, rfl, by decide +kernel, rfl, by decide +kernel, by decide +kernel⟩
theorem scHEqual : FnScope ["self", "other"] ["self", "other"] (defScope sHEqual) := ⟨rfl, rfl, rfl, by decide +kernel, rfl, by decide +kernel, by decide +kernel⟩
def spCall (K : PySem.W.Frag) (CL CH : Addr) : Sp := fun vs H Q _ => ∃ (p : Addr) (L : WLines) (mix : Halves.Row) (R : Rule) (n a b c : Nat), vs = [.ref p, .int (n : Int)] ∧ FnAt K CL CH H p L mix R ∧ WB L a b c ∧ RowIn a L.starts.length mix ∧ (n : Int) ≤ big ∧
  ∀ H', Same H H' → Q (.int (sumOf mix (vat L n))) H'
/-- two functions with the same least rule -/
def SameRule (K : PySem.W.Frag) (CL CH : Addr) (a b : Addr) (H : Hp) : Prop := ∃ L mix L' mix' R, FnAt K CL CH H a L mix R ∧ FnAt K CL CH H b L' mix' R
theorem big_lt : big < 2 ^ 1100 := by unfold big; decide +kernel
section
variable {P : Program} {w : World} {K : PySem.W.Frag} {mg : Str → Option Value} {base : Heap}
theorem ok_linesInit {C f : Addr} {fd : FuncData} (F : Fun K "__init__" "Lines.__init__" sLinesInit f fd) (T : LinesC K C) : FnOk P w K mg base CX0 1 f fd ["self", "evens", "odds", "starts"] (spLinesInit C) := by
  refine F.ok scLinesInit (fun vs H Q E h => ?_) (fun cdv A outer s H vs Q E hr h => ?_)
  · obtain ⟨p, dx, e, o, s, rfl, _⟩ := h
    rfl
  · obtain ⟨p, dx, e, o, st, rfl, hp, k⟩ := h
    refine ⟨_, pss_cons (ps_fld (pv 0) (pe_tup (pa_cons (pv 1) (pa_cons (pv 2) pa_nil))) rfl) (pss_one (ps_fld (pv 0) (pv 3) rfl)), ?_⟩
    refine ⟨_, rfl, _, rfl, by show 2 ≤ sizeLine; decide, fun t nt => ?_⟩
    have npt : p ≠ t := ne_of_none hp nt
    refine ⟨_, rfl, p, C, dx, [], rfl, (by rw [upd_ne npt]; exact hp), T.cl, T.nh, (by show 0 < 1000; decide), _, rfl, _, rfl, p, C, dx, _, rfl, upd_same, T.cl, T.ns, (by show 1 < 1000; decide), ?_⟩
    refine k t _ nt (by rw [upd_ne (Ne.symm npt), upd_ne (Ne.symm npt), upd_same]) upd_same fun b q hb hbp => ?_
    rw [upd_ne hbp, upd_ne hbp, upd_ne (ne_of_none hb nt)]; exact hb
theorem ok_hInit {C f : Addr} {fd : FuncData} (F : Fun K "__init__" "Halved.__init__" sHInit f fd) (T : HalvedC K C) : FnOk P w K mg base CX0 1 f fd ["self", "lines", "mix", "told"] (spHInit C) := by
  refine F.ok scHInit (fun vs H Q E h => ?_) (fun cdv A outer s H vs Q E hr h => ?_)
  · obtain ⟨p, dx, l, m, t, b, e, f, rfl, _⟩ := h
    rfl
  · obtain ⟨p, dx, l, m, t, b, e, f, rfl, hp, ht, k⟩ := h
    have npt : t ≠ p := by intro z; rw [z, hp] at ht; cases ht
    refine ⟨_, pss_cons (ps_fld (pv 0) (pv 1) rfl) (pss_cons (ps_fld (pv 0) (pv 2) rfl) (pss_one (ps_asg (pv 3) (pg_tup rfl (pgs_cons (pg_attr (pv 0)) (pgs_cons (pg_attr (pv 0)) (pgs_cons (pg_attr (pv 0)) pgs_nil))))))), ?_⟩
    have l0 : ([] : List (Str × V)).length ≤ 0 := Nat.le_refl _
    have l1 := putF_len (f := "lines") (v := V.ref l) l0
    have l2 := putF_len (f := "mix") (v := V.ref m) l1
    have l3 := putF_len (f := "_basis") (v := V.ref b) l2
    have l4 := putF_len (f := "_equations") (v := V.ref e) l3
    refine ⟨_, rfl, _, rfl, p, C, dx, [], rfl, hp, T.cl, T.nl, (by show 0 < 1000; decide), ?_⟩
    refine ⟨_, rfl, _, rfl, p, C, dx, _, rfl, upd_same, T.cl, T.nm, (by omega), ?_⟩
    refine ⟨_, rfl, t, _, rfl, SqT.of (by rw [upd_ne npt, upd_ne npt]; exact ht), rfl, ?_⟩
    refine ⟨_, _, rfl, ⟨_, rfl, p, C, dx, _, rfl, upd_same, T.cl, T.nb, (by omega), _, _, rfl, ⟨_, rfl, p, C, dx, _, rfl, upd_same, T.cl, T.ne, (by omega), _, _, rfl, ⟨_, rfl, p, C, dx, _, rfl, upd_same, T.cl, T.nf, (by omega), rfl, ?_⟩⟩⟩⟩
    refine k _ upd_same fun b q hb hbp => ?_
    rw [upd_ne hbp, upd_ne hbp, upd_ne hbp, upd_ne hbp, upd_ne hbp]; exact hb
theorem ok_basis {C f : Addr} {fd : FuncData} (F : Fun K "basis" "Halved.basis" sHBasis f fd) (T : HalvedC K C) : FnOk P w K mg base CX0 1 f fd ["self"] (spGet C "_basis") := by
  refine F.ok scHBasis (fun vs H Q E h => ?_) (fun cdv A outer s H vs Q E hr h => ?_)
  · obtain ⟨a, dx, fs, v, rfl, _⟩ := h
    rfl
  · obtain ⟨a, dx, fs, v, rfl, ha, hl, k⟩ := h
    exact ⟨_, pss_one (ps_ret (pe_fld (pv 0) rfl)), ⟨_, rfl, a, C, dx, fs, v, rfl, ha, T.cl, T.nb, hl, k⟩⟩
theorem ok_equations {C f : Addr} {fd : FuncData} (F : Fun K "equations" "Halved.equations" sHEquations f fd) (T : HalvedC K C) : FnOk P w K mg base CX0 1 f fd ["self"] (spGet C "_equations") := by
  refine F.ok scHEq (fun vs H Q E h => ?_) (fun cdv A outer s H vs Q E hr h => ?_)
  · obtain ⟨a, dx, fs, v, rfl, _⟩ := h
    rfl
  · obtain ⟨a, dx, fs, v, rfl, ha, hl, k⟩ := h
    exact ⟨_, pss_one (ps_ret (pe_fld (pv 0) rfl)), ⟨_, rfl, a, C, dx, fs, v, rfl, ha, T.cl, T.ne, hl, k⟩⟩
theorem ok_firsts {C f : Addr} {fd : FuncData} (F : Fun K "firsts" "Halved.firsts" sHFirsts f fd) (T : HalvedC K C) : FnOk P w K mg base CX0 1 f fd ["self"] (spGet C "_firsts") := by
  refine F.ok scHFirsts (fun vs H Q E h => ?_) (fun cdv A outer s H vs Q E hr h => ?_)
  · obtain ⟨a, dx, fs, v, rfl, _⟩ := h
    rfl
  · obtain ⟨a, dx, fs, v, rfl, ha, hl, k⟩ := h
    exact ⟨_, pss_one (ps_ret (pe_fld (pv 0) rfl)), ⟨_, rfl, a, C, dx, fs, v, rfl, ha, T.cl, T.nf, hl, k⟩⟩
theorem ok_rank {C f : Addr} {fd : FuncData} (F : Fun K "rank" "Halved.rank" sHRank f fd) (T : HalvedC K C) (B : Nm7 mg) : FnOk P w K mg base CX0 1 f fd ["self"] (spRank K C) := by
  refine F.ok scHRank (fun vs H Q E h => ?_) (fun cdv A outer s H vs Q E hr h => ?_)
  · obtain ⟨a, dx, b, fs, xs, rfl, _⟩ := h
    rfl
  · obtain ⟨a, dx, b, fs, xs, rfl, ha, hl, ht, k⟩ := h
    exact ⟨_, pss_one (ps_ret (pe_callB call_len_seq (by rfl) B.len boot_len (pa_cons (pe_fld (pv 0) rfl) pa_nil))), ⟨_, rfl, a, C, dx, fs, _, rfl, ha, T.cl, T.nb, hl, b, xs, rfl, .inr ht, k⟩⟩
theorem ok_call {CL CH f fN fS fA : Addr} {fd fdN fdS fdA : FuncData} (F : Fun K "__call__" "Halved.__call__" sHCall f fd) (T : HalvedC K CH) (FN : Fn' P w K mg base 3 "is_number" fN fdN ["value"] spIsNumber) (FS : Fn' P w K mg base 1 "sum_of" fS fdS ["factors", "values"] (spSumOf K))
    (FA : Fn' P w K mg base 4 "values_at" fA fdA ["lines", "n"] (spFar K CL)) : FnOk P w K mg base CX0 5 f fd ["self", "n"] (spCall K CL CH) := by
  refine F.ok scHCall (fun vs H Q E h => ?_) (fun cdv A outer s H vs Q E hr h => ?_)
  · obtain ⟨p, L, mix, R, n, a, b, c, rfl, _⟩ := h
    rfl
  · obtain ⟨p, L, mix, R, n, a, b, c, rfl, hF, hB, hmix, hn, k⟩ := h
    obtain ⟨dx, l, m, bb, e, f, h1, h2, h3, h4, h5, h6⟩ := hF.ex
    refine ⟨_, pss_cons (ps_if (pt_not (pt_val (pe_call FN.ok (hr.mono (by decide)) (by rfl) FN.m FN.k FN.b .nil pass0 (pa_cons (pv 1) pa_nil)))) (pss_one ps_never) pss_nil)
      (pss_one (ps_ret (pe_call FS.ok (hr.mono (by decide)) (by rfl) FS.m FS.k FS.b .nil pass0 (pa_cons (pe_fld (pv 0) rfl) (pa_cons (pe_call FA.ok hr (by rfl) FA.m FA.k FA.b .nil pass0 (pa_cons (pe_fld (pv 0) rfl) (pa_cons (pv 1) pa_nil))) pa_nil))))), ?_⟩
    have hb2 : (n : Int) < 2 ^ 1100 := Int.lt_of_le_of_lt hn big_lt
    have hn2 : n < 2 ^ 1100 := by
      have : ((n : Nat) : Int) < ((2 ^ 1100 : Nat) : Int) := by rw [Int.natCast_pow]; exact hb2
      exact Int.ofNat_lt.1 this
    refine ⟨_, rfl, _, rfl, _, rfl, ?_⟩
    have ed : decide (0 ≤ (n : Int) ∧ (n : Int) ≤ big) = true := decide_eq_true ⟨Int.natCast_nonneg n, hn⟩
    rw [ed]
    refine iteF ?_
    refine ⟨_, rfl, p, CH, dx, _, _, rfl, h1, T.cl, T.nm, fnF_m l m bb e f, _, rfl, p, CH, dx, _, _, rfl, h1, T.cl, T.nl, fnF_l l m bb e f, _, rfl, l, L, n, a, b, c, rfl, h2, hB, hn2, fun H' q s' hq => ?_⟩
    refine ⟨m, q, mix, vat L n, a, 300000, rfl, s' _ _ h3, hq, hmix.nd, by rw [Halves.vat_len hB.ok]; exact hmix.lt, hmix.len, hmix.sm, vat_small hB hn2, hB.a0, by decide, by have := hB.al; omega, fun H'' s'' => k H'' (s'.trans s'')⟩
theorem ok_equal {CL CH f : Addr} {fd : FuncData} (F : Fun K "__eq__" "Halved.__eq__" sHEqual f fd) (T : HalvedC K CH) (B : NmC mg) (mH : mg "Halved" = some (.ref CH)) : FnOk P w K mg base CX0 3 f fd ["self", "other"] (spEq (SameRule K CL CH)) := by
  refine F.ok scHEqual (fun vs H Q E h => ?_) (fun cdv A outer s H vs Q E hr h => ?_)
  · obtain ⟨a, b, rfl, _⟩ := h
    rfl
  · obtain ⟨a, b, rfl, ⟨L, mix, L', mix', R, hF, hG⟩, k⟩ := h
    obtain ⟨dx, l, m, bb, e, f, h1, h2, h3, h4, h5, h6⟩ := hF.ex
    obtain ⟨dx', l', m', bb', e', f', h1', h2', h3', h4', h5', h6'⟩ := hG.ex
    have hu := hr.units
    refine ⟨_, pss_one (ps_ret (pe_and (pe_callB call_isi (by rfl) B.isinst (by decide +kernel) (pa_cons (pv 1) (pa_cons (pe_glob (v := .ref CH) rfl mH rfl) pa_nil)))
      (pe_and (pe_cmpR (op_eqD hu) (pe_fld (pv 0) rfl) (pe_fld (pv 1) rfl) (nomark _)) (pe_and (pe_cmpR (op_eqD hu) (pe_fld (pv 0) rfl) (pe_fld (pv 1) rfl) (nomark _)) (pe_one (pe_cmpR (op_eqD hu) (pe_fld (pv 0) rfl) (pe_fld (pv 1) rfl) (nomark _))))))), ?_⟩
    refine ⟨_, rfl, _, _, .ref CH, .ref CH, true, rfl, .own _, .base (.ins h1' T.cl T.ha T.hn T.ht T.hm), T.hk, _, rfl, iteT ?_⟩
    refine ⟨_, rfl, a, CH, dx, _, _, rfl, h1, T.cl, T.nb, fnF_b l m bb e f, _, rfl, b, CH, dx', _, _, rfl, h1', T.cl, T.nb, fnF_b l' m' bb' e' f', _, _, h4, h4', (sh_basis R).shaped (by decide), (sh_basis R).shaped (by decide), _, rfl, ?_⟩
    rw [SeqAt.eqv_refl _ (sh_basis R).1]
    refine iteT ⟨_, rfl, a, CH, dx, _, _, rfl, h1, T.cl, T.ne, fnF_e l m bb e f, _, rfl, b, CH, dx', _, _, rfl, h1', T.cl, T.ne, fnF_e l' m' bb' e' f', _, _, h5, h5', (sh_rows R).shaped (by decide), (sh_rows R).shaped (by decide), _, rfl, ?_⟩
    rw [SeqAt.eqv_refl _ (sh_rows R).1]
    refine iteT ⟨_, rfl, a, CH, dx, _, _, rfl, h1, T.cl, T.nf, fnF_f l m bb e f, _, rfl, b, CH, dx', _, _, rfl, h1', T.cl, T.nf, fnF_f l' m' bb' e' f', _, _, h6, h6', (sh_firsts R).shaped (by decide), (sh_firsts R).shaped (by decide), ?_⟩
    rw [SeqAt.eqv_refl _ (sh_firsts R).1]
    exact k H Ext.rfl'
end
end L2.EH
end S_L12
section S_C3
set_option maxRecDepth 100000
set_option maxHeartbeats 4000000
namespace L2.EH
open PySem PySem.Spec PyProof.Rows L2
section
variable {X : Cx} {C : Addr} {bmB : List Value} {B newId initId : String}
/-- X() -/
theorem pmk_own0 {x : Str} {p pos : Pos} (F : ExcBaseFacts B newId initId bmB) (q : PySem.W.excIn X.K C bmB newId = true) (gC : X.mg x = some (.ref C)) (kC : PySem.W.keepIn X.K (.ref C) = true) (r : Raises X (.ref C)) (hg : Gl X x)
    (hdb : (x == ("__debug__" : Str)) = false := by decide) : PMk X (.Call (.Name x p) [] [] pos) (fun _ H Q => Q (.ref C) none H) := by
  intro pins s σ H Q I h
  refine wpAny_Call_Name_kw (ld_glob I hg gC ?_ hdb)
  refine PySem.W.callWith_K0 I.kIn kC ?_
  show wpAny _ _ (call (.ref C) []) _ _ _
  obtain ⟨bm, N, nm, qn, bs, hdct, sn, sub, ab, col, dd, k0, k1, k2, k3, k5, mN, hC, hN, hni, T⟩ := exc_obj I.kIn q
  refine wpAny_call_exc_subT F T hC hN hni (fun h' e hm => ?_) (by show 0 ≤ sizeLine; exact Nat.zero_le _)
  exact mk_of I hm r h (I.hok.gone hm.new)
end
end L2.EH
end S_C3
section S_L13
set_option maxRecDepth 100000
set_option maxHeartbeats 4000000
namespace L2.EH
open PySem PySem.Spec PyProof.Rows StX
open L2.Halves (has keys Clean sumOf stepped Small WLines WOk vat Rule)
/-! ### whole rows -/
def wrow (r : Halves.Row) (n : Nat) : List (Int × Int) := (List.range n).map fun i => (Halves.get r i, 1)
def spWholeRow (K : PySem.W.Frag) : Sp := fun vs H Q _ => ∃ (a : Addr) (r : Halves.Row) (n : Nat), vs = [.ref a, .int (n : Int)] ∧ H a = some (.dK (rowK r)) ∧ n ≤ 900 ∧ ∀ H' p, Same H H' → H p = none → Dp K H' (.ref p) (.tuple ((wrow r n).map pairD)) → Q (.ref p) H'
theorem scWholeRow : FnScope ["mix", "width", "at"] ["mix", "width"] (defScope sWholeRow) := ⟨rfl, rfl, rfl, by decide +kernel, rfl, by decide +kernel, by decide +kernel⟩
/-- the least rule of lines that are basic parts -/
def ruleB (basis : List (Nat × Nat)) (L : WLines) : Rule := ⟨basis, List.zipWith (fun e o => (wrow e basis.length, wrow o basis.length)) L.evens L.odds, L.starts⟩
def spOfBasis (K : PySem.W.Frag) (CL CH : Addr) : Sp := fun vs H Q _ => ∃ (l b : Addr) (L : WLines) (basis : List (Nat × Nat)) (xs : List V), vs = [.ref l, .ref b] ∧ LinesAt K CL H l L ∧ L.evens.length = L.odds.length ∧ L.evens.length ≤ 900 ∧ basis.length ≤ 900 ∧ SqT K H b xs ∧ xs.length = basis.length ∧ Dp K H (.ref b) (basisD (ruleB basis L)) ∧
  ∀ H' p, Same H H' → FnAt K CL CH H' p L [(0, 1)] (ruleB basis L) → Q (.ref p) H'
theorem scOfBasis : FnScope ["lines", "basis", "width", "evens", "odds", "equations", "even", "odd"] ["lines", "basis"] (defScope sOfBasis) := ⟨rfl, rfl, rfl, by decide +kernel, rfl, by decide +kernel, by decide +kernel⟩
structure Nm9 (mg : Str → Option Value) : Prop where
  zip : mg "zip" = none
  enum : mg "enumerate" = none
/-- a class that is made by its __init__ -/
structure Made (P : Program) (w : World) (K : PySem.W.Frag) (mg : Str → Option Value) (base : Heap) (k : Nat) (x : Str) (C f : Addr) (fd : FuncData) (ps : List Str) (sp : Sp) : Prop where
  M : Mk K C f
  ok : FnOk P w K mg base CX0 k f fd ps sp
  m : mg x = some (.ref C)
  b : Binds K fd ps []
theorem rt_row (r : List (Int × Int) × List (Int × Int)) : tupOnly (.tuple [.tuple (r.1.map pairD), .tuple (r.2.map pairD)]) = true := by
  simp [tupOnly, tupsOnly, tupsOnly_map pairD pairD_tup]
section
variable {P : Program} {w : World} {K : PySem.W.Frag} {mg : Str → Option Value} {base : Heap}
theorem ok_wholeRow {f : Addr} {fd : FuncData} (F : Fun K "whole_row" "whole_row" sWholeRow f fd) (B : Nm7 mg) (B8 : Nm8 mg) : FnOk P w K mg base CX0 1 f fd ["mix", "width"] (spWholeRow K) := by
  refine F.ok scWholeRow (fun vs H Q E h => ?_) (fun cdv A outer s H vs Q E hr h => ?_)
  · obtain ⟨a, r, n, rfl, _⟩ := h
    rfl
  · obtain ⟨a, r, n, rfl, ha, hn, k⟩ := h
    have hu := hu_of hr
    have nd := scWholeRow.nd
    refine ⟨_, pss_one (ps_ret (pe_callTy call_tuple_of (by rfl) B8.tuple (by decide +kernel) (pa_cons (pe_lc (own := [("at", 2)]) (g := gName 2) (tt := tYes) rfl nd (pi_range1 (by rfl) B.range (pa_cons (pv 1) pa_nil)) (blkOk_by (N := ["mix", "width", "at"]) (sc := defScope sWholeRow) (by decide +kernel))
      (fun _ _ _ _ _ => pg_name (i := 2) nd rfl (Or.inl rfl) (Or.inr rfl)) (fun _ _ _ _ _ => pts_nil)
      (fun _ _ _ _ _ => pe_tup (pa_cons (pe_dget2 (by exact hu) (pv 0) (pv 2) pe_int ⟨rfl, rfl, rfl, rfl⟩) (pa_cons pe_int pa_nil)))) pa_nil))), ?_⟩
    refine ⟨_, rfl, (n : Int), rfl, by omega, by omega, fun D nD => ?_⟩
    have en : (((n : Int)).toNat) = n := by omega
    refine lc_out walk_range (fun i Hc => Same H Hc ∧ ∃ vs : List V, Hc D = some (.lst vs) ∧ vs.length = i ∧ DpAll K Hc vs ((wrow r i).map pairD)) ⟨same_new nD, [], by rw [upd_same], rfl, .nil⟩ (fun _ _ _ _ => trivial) ?_ ?_
    · rintro i x Hc H' hi ⟨hs, vs, hD, hvl, hv⟩ ⟨rfl, rfl⟩
      have him : i < n := by omega
      have eI : ((0 : Int) + (i : Nat)) = (i : Int) := by omega
      have ha' := hs _ _ ha
      show gName 2 (V.int (0 + (i : Nat))) _ _ _
      rw [eI]
      refine ⟨rfl, ?_⟩
      have eF : wrow r (i + 1) = wrow r i ++ [(Halves.get r i, 1)] := by
        unfold wrow
        rw [List.range_succ, List.map_append]; rfl
      refine ⟨_, rfl, a, rfl, .inl ⟨_, .inl ha'⟩, _, rfl, _, DGet.k (k := Sum.inl (i : Int)) ha', by show 2 ≤ sizeLine; decide, fun t nt => ?_⟩
      rw [getD_row]
      have st := same_new (o := .tup [.int (Halves.get r i), .int 1]) nt
      have hD2 := st _ _ hD
      refine ⟨_, hD2, small1000 (by omega), fun b o e => ?_, vs ++ [.ref t], by rw [upd_same], by simp [hvl], ?_⟩
      · rw [upd_ne (by intro z; rw [z, nD] at e; cases e)]; exact st _ _ (hs _ _ e)
      · rw [eF, List.map_append]
        exact dpAll_snoc (dp_keep (keepD_lst hD2) (pairD_tup _) (pair_dp (p := (Halves.get r i, 1)) (SqT.of upd_same))) (dpAll_keep (keepD_lst hD2) (tupsOnly_map pairD pairD_tup _) (dpAll_same st hv))
    · rintro Hc ⟨hs, vs, hD, hvl, hv⟩
      rw [en] at hv
      refine ⟨D, vs, rfl, .inl ⟨SqL.of hD, fun T nT => ?_⟩⟩
      exact k _ T (hs.trans (same_new nT)) (hs.free nT) (.tup (SqT.of upd_same) (dpAll_same (same_new nT) hv))
theorem ok_ofBasis {CL CH f fW fI : Addr} {fd fdW fdI : FuncData} (F : Fun K "function_of_basis" "function_of_basis" sOfBasis f fd) (T : LinesC K CL) (B : Nm7 mg) (B8 : Nm8 mg) (B9 : Nm9 mg) (FW : Fn' P w K mg base 1 "whole_row" fW fdW ["mix", "width"] (spWholeRow K))
    (MH : Made P w K mg base 1 "Halved" CH fI fdI ["self", "lines", "mix", "told"] (spHInit CH)) : FnOk P w K mg base CX0 3 f fd ["lines", "basis"] (spOfBasis K CL CH) := by
  refine F.ok scOfBasis (fun vs H Q E h => ?_) (fun cdv A outer s H vs Q E hr h => ?_)
  · obtain ⟨l, b, L, basis, xs, rfl, _⟩ := h
    rfl
  · obtain ⟨l, b, L, basis, xs, rfl, hl, heo, hel, hbl, hbt, hbx, hbd, k⟩ := h
    have hu := hu_of hr
    have nd := scOfBasis.nd
    obtain ⟨dx, t, e, o, st, h1, h2, h3, h4, h5⟩ := hl.ex
    refine ⟨_, pss_cons (ps_set (i := 2) nd rfl (Or.inr rfl) (pe_callB call_len_seq (by rfl) B.len boot_len (pa_cons (pv 1) pa_nil)))
      (pss_cons (ps_asg (pe_fld (pv 0) rfl) (pg_tup rfl (pgs_cons (pg_name (i := 3) nd rfl (Or.inl rfl)) (pgs_cons (pg_name (i := 4) nd rfl (Or.inl rfl)) pgs_nil))))
      (pss_cons (ps_set (i := 5) nd rfl (Or.inl rfl) (pe_callTy call_tuple_of (by rfl) B8.tuple (by decide +kernel) (pa_cons (pe_lc (own := [("even", 6), ("odd", 7)]) (g := gTup K 2 (gCons (gName 6) (gCons (gName 7) gNil))) (tt := tYes) (te := tTup (tCons (tCall (spWholeRow K) [] E0 (tCons (tVar 6) (tCons (tVar 2) tNil))) (tCons (tCall (spWholeRow K) [] E0 (tCons (tVar 7) (tCons (tVar 2) tNil))) tNil))) rfl nd (pi_zip (by rfl) B9.zip (pa_cons (pv 3) (pa_cons (pv 4) pa_nil))) (blkOk_by (N := ["lines", "basis", "width", "evens", "odds", "equations", "even", "odd"]) (sc := defScope sOfBasis) (by decide +kernel))
        (fun _ _ _ _ _ => pg_tup rfl (pgs_cons (pg_name (i := 6) nd rfl (Or.inl rfl) (Or.inr rfl)) (pgs_cons (pg_name (i := 7) nd rfl (Or.inl rfl) (Or.inr rfl)) pgs_nil rfl) rfl) rfl rfl) (fun _ _ _ _ _ => pts_nil)
        (fun _ _ _ _ _ => pe_tup (pa_cons (pe_call FW.ok (by exact hr.mono (by decide)) (by rfl) FW.m FW.k FW.b .nil pass0 (pa_cons (pv 6) (pa_cons (pv 2) pa_nil))) (pa_cons (pe_call FW.ok (by exact hr.mono (by decide)) (by rfl) FW.m FW.k FW.b .nil pass0 (pa_cons (pv 7) (pa_cons (pv 2) pa_nil))) pa_nil)))) pa_nil)))
      (pss_one (ps_ret (pe_make MH.M MH.ok hr (by rfl) MH.m MH.b .nil pass0 (pa_cons (pv 0) (pa_cons (pe_disp (pps_cons pe_int pe_int pps_nil) (by rfl) (by rfl) (fun z => by cases z) (by decide)) (pa_cons (pe_tup (pa_cons (pv 1) (pa_cons (pv 5) (pa_cons (pe_callTy call_tuple_of (by rfl) B8.tuple (by decide +kernel) (pa_cons (pe_fld (pv 0) rfl) pa_nil)) pa_nil)))) pa_nil)))))))), ?_⟩
    obtain ⟨exs, he1, he2, he3⟩ := id h3
    obtain ⟨oxs, ho1, ho2, ho3⟩ := id h4
    refine ⟨_, rfl, b, xs, rfl, .inr hbt, ?_⟩
    rw [hbx]
    refine ⟨_, rfl, l, CL, dx, _, _, rfl, h1, T.cl, T.nh, lineF_h t st, t, _, rfl, h2, rfl, _, _, rfl, _, _, rfl, rfl, ?_⟩
    refine ⟨_, rfl, _, rfl, e, o, _, _, rfl, he1, ho1, fun D nD => ?_⟩
    have hmin : L.evens.length = min (exs.map V.ref).length (oxs.map V.ref).length := by simp; omega
    refine lc_out (walk_zip hmin) (fun i Hc => Same H Hc ∧ ∃ es : List V, Hc D = some (.lst es) ∧ es.length = i ∧ DpAll K Hc es (((ruleB basis L).rows.take i).map fun r => .tuple [.tuple (r.1.map pairD), .tuple (r.2.map pairD)])) ⟨same_new nD, [], upd_same, rfl, .nil⟩ (fun i Hc _ hP => ⟨hP.1.seq he1, hP.1.seq ho1⟩) ?_ ?_
    · rintro i x Hc H' hi ⟨hs, es, hD, hel2, hes⟩ ⟨TT, vx, vy, rfl, nT, rfl, hvx, hvy⟩
      have hie : i < exs.length := by omega
      have hio : i < oxs.length := by omega
      replace hvx : (exs.map V.ref)[i]? = some vx := hvx
      replace hvy : (oxs.map V.ref)[i]? = some vy := hvy
      rw [List.getElem?_map, List.getElem?_eq_getElem hie] at hvx
      rw [List.getElem?_map, List.getElem?_eq_getElem hio] at hvy
      injection hvx with hvx
      injection hvy with hvy
      subst hvx hvy
      have sT := same_new (o := .tup [V.ref exs[i], V.ref oxs[i]]) nT
      have rE := (hs.trans sT) _ _ (he3 i hie (by omega))
      have rO := (hs.trans sT) _ _ (ho3 i hio (by omega))
      refine ⟨TT, _, rfl, SqT.of upd_same, rfl, _, _, rfl, _, _, rfl, rfl, rfl, ?_⟩
      refine ⟨_, rfl, _, rfl, exs[i], L.evens[i], basis.length, rfl, rE, hbl, fun H1 p1 s1 n1 d1 => ?_⟩
      refine ⟨_, rfl, _, rfl, oxs[i], L.odds[i], basis.length, rfl, s1 _ _ rO, hbl, fun H2 p2 s2 n2 d2 => ?_⟩
      refine ⟨by show 2 ≤ sizeLine; decide, fun t nt => ?_⟩
      have st2 := same_new (o := .tup [.ref p1, .ref p2]) nt
      have sall := ((sT.trans s1).trans s2).trans st2
      have hD2 := sall _ _ hD
      refine ⟨_, hD2, small1000 (by omega), fun y oy hy => ?_, es ++ [.ref t], by rw [upd_same], by simp [hel2], ?_⟩
      · rw [upd_ne (by intro z; rw [z, nD] at hy; cases hy)]; exact sall _ _ (hs _ _ hy)
      · have hrl : i < (ruleB basis L).rows.length := by simp [ruleB]; omega
        have erow : (ruleB basis L).rows[i] = (wrow L.evens[i] basis.length, wrow L.odds[i] basis.length) := by simp [ruleB]
        rw [List.take_succ_eq_append_getElem hrl, List.map_append, erow]
        refine dpAll_snoc (dp_keep (keepD_lst hD2) (rt_row _) (.tup (SqT.of upd_same) (.cons (dp_same (s2.trans st2) d1) (.cons (dp_same st2 d2) .nil)))) (dpAll_keep (keepD_lst hD2) (tupsOnly_map _ rt_row _) (dpAll_same sall hes))
    · rintro Hc ⟨hs, es, hD, hel2, hes⟩
      have etk : (ruleB basis L).rows.take L.evens.length = (ruleB basis L).rows := List.take_of_length_le (by simp [ruleB]; omega)
      rw [etk] at hes
      refine ⟨D, es, rfl, .inl ⟨SqL.of hD, fun et net => ?_⟩⟩
      have s1 := same_new (o := .tup es) net
      have hE : Dp K (upd Hc et (.tup es)) (.ref et) (rowsD (ruleB basis L)) := .tup (SqT.of upd_same) (dpAll_same s1 hes)
      have sH := hs.trans s1
      generalize (upd Hc et (.tup es)) = H1 at *
      refine ⟨_, rfl, fun m nm => ⟨upd_same, [(Sum.inl 0, V.int 1)], rfl, by show 1 ≤ 15; decide, ?_⟩⟩
      have sm : Same H1 (upd (upd H1 m (.dK [])) m (.dK (mergeK [] [(Sum.inl 0, V.int 1)]))) := by rw [upd_upd]; exact same_new nm
      have hm : (upd (upd H1 m (.dK [])) m (.dK (mergeK [] [(Sum.inl 0, V.int 1)]))) m = some (.dK (rowK [(0, 1)])) := by rw [upd_same]; rfl
      generalize (upd (upd H1 m (.dK [])) m (.dK (mergeK [] [(Sum.inl 0, V.int 1)]))) = H2 at *
      have sH2 := sH.trans sm
      refine ⟨_, rfl, _, rfl, _, rfl, l, CL, dx, _, _, rfl, sH2 _ _ h1, T.cl, T.ns, lineF_s t st, st, _, rfl, .inl ⟨sH2.seq h5, fun ft nft => ?_⟩⟩
      have s3 := same_new (o := .tup (L.starts.map V.int)) nft
      have hF : Dp K (upd H2 ft (.tup (L.starts.map V.int))) (.ref ft) (firstsD (ruleB basis L)) := by
        refine .tup (SqT.of upd_same) ?_
        have hin : ∀ (Hq : Hp) (zs : List Int), DpAll K Hq (zs.map V.int) (zs.map PyData.int) := fun Hq zs => by
          induction zs with
          | nil => exact .nil
          | cons z zs ih => exact .cons (.int _) ih
        exact hin _ _
      generalize (upd H2 ft (.tup (L.starts.map V.int))) = H3 at *
      refine ⟨by show 3 ≤ sizeLine; decide, fun tt ntt => ?_⟩
      have s4 := same_new (o := .tup [.ref b, .ref et, .ref ft]) ntt
      intro x dxx nx ndx nex
      have htt : (upd H3 tt (.tup [.ref b, .ref et, .ref ft])) tt = some (.tup [.ref b, .ref et, .ref ft]) := upd_same
      generalize (upd H3 tt (.tup [.ref b, .ref et, .ref ft])) = H4 at *
      have h4x : ∀ y oy, H4 y = some oy → (upd (upd H4 dxx (.own x)) x (.ins CH dxx [])) y = some oy := fun y oy hy => by
        rw [upd_ne (ne_of_none hy nx), upd_ne (ne_of_none hy ndx)]; exact hy
      refine ⟨x, dxx, l, m, tt, b, et, ft, rfl, upd_same, h4x _ _ htt, fun H' hx hk => ⟨rfl, ?_⟩⟩
      have s5 : Same H4 H' := Same.made nx ndx hk
      have s35 := s4.trans s5
      have s25 := s3.trans s35
      have s15 := sm.trans s25
      have s05 := sH.trans s15
      exact k H' x s05 ⟨dxx, l, m, b, et, ft, hx, hl.same s05, s25 _ _ hm, dp_same s05 hbd, dp_same s15 hE, dp_same s35 hF⟩
end
end L2.EH
end S_L13
section S_L14
set_option maxRecDepth 100000
set_option maxHeartbeats 4000000
namespace L2.EH
open PySem PySem.Spec PyProof.Rows StX
open L2.Halves (has keys Clean sumOf stepped Small WLines WOk vat Rule numberLines)
/-! ### constants and n -/
def constL (c : Int) : WLines := if c = 0 then ⟨[], [], []⟩ else ⟨[[(0, 1)]], [[(0, 1)]], [c]⟩
def constM (c : Int) : Halves.Row := if c = 0 then [] else [(0, 1)]
def constR (c : Int) : Rule := if c = 0 then ⟨[], [], []⟩ else ruleB [(0, 0)] ⟨[[(0, 1)]], [[(0, 1)]], [c]⟩
def spConstant (K : PySem.W.Frag) (CL CH : Addr) : Sp := fun vs H Q _ => ∃ c : Int, vs = [.int c] ∧ ∀ H' p, Same H H' → FnAt K CL CH H' p (constL c) (constM c) (constR c) → Q (.ref p) H'
theorem scConstant : FnScope ["c"] ["c"] (defScope sConstant) := ⟨rfl, rfl, rfl, by decide +kernel, rfl, by decide +kernel, by decide +kernel⟩
/-- what a new object keeps -/
theorem same_ins {H : Hp} {x dxx C : Addr} (nx : H x = none) (ndx : H dxx = none) : ∀ y oy, H y = some oy → (upd (upd H dxx (.own x)) x (.ins C dxx [])) y = some oy := fun y oy hy => by
  rw [upd_ne (ne_of_none hy nx), upd_ne (ne_of_none hy ndx)]; exact hy
section
variable {P : Program} {w : World} {K : PySem.W.Frag} {mg : Str → Option Value} {base : Heap}
theorem ok_constant {CL CH f fI fLI fHI fB : Addr} {fd fdI fdLI fdHI fdB : FuncData} (F : Fun K "constant" "constant" sConstant f fd) (FI : Fn' P w K mg base 1 "is_integer" fI fdI ["value"] spIsInt)
    (ML : Made P w K mg base 1 "Lines" CL fLI fdLI ["self", "evens", "odds", "starts"] (spLinesInit CL)) (MH : Made P w K mg base 1 "Halved" CH fHI fdHI ["self", "lines", "mix", "told"] (spHInit CH))
    (FB : Fn' P w K mg base 3 "function_of_basis" fB fdB ["lines", "basis"] (spOfBasis K CL CH)) : FnOk P w K mg base CX0 4 f fd ["c"] (spConstant K CL CH) := by
  refine F.ok scConstant (fun vs H Q E h => ?_) (fun cdv A outer s H vs Q E hr h => ?_)
  · obtain ⟨c, rfl, _⟩ := h
    rfl
  · obtain ⟨c, rfl, k⟩ := h
    have nd := scConstant.nd
    refine ⟨_, pss_cons (ps_if (pt_not (pt_val (pe_call FI.ok (by exact hr.mono (by decide)) (by rfl) FI.m FI.k FI.b .nil pass0 (pa_cons (pv 0) pa_nil)))) (pss_one ps_never) pss_nil)
      (pss_cons (ps_if (pt_cmpR op_eq (pv 0) pe_int (nomark _)) (pss_one (ps_ret (pe_make MH.M MH.ok (by exact hr.mono (by decide)) (by rfl) MH.m MH.b .nil pass0 (pa_cons (pe_make ML.M ML.ok (by exact hr.mono (by decide)) (by rfl) ML.m ML.b .nil pass0 (pa_cons (pe_lst pa_nil) (pa_cons (pe_lst pa_nil) (pa_cons (pe_lst pa_nil) pa_nil)))) (pa_cons pe_dnewK (pa_cons (pe_tup (pa_cons (pe_tup pa_nil) (pa_cons (pe_tup pa_nil) (pa_cons (pe_tup pa_nil) pa_nil)))) pa_nil)))))) pss_nil)
      (pss_one (ps_ret (pe_call FB.ok (by exact hr.mono (by decide)) (by rfl) FB.m FB.k FB.b .nil pass0 (pa_cons (pe_make ML.M ML.ok (by exact hr.mono (by decide)) (by rfl) ML.m ML.b .nil pass0 (pa_cons (pe_lst (pa_cons (pe_disp (pps_cons pe_int pe_int pps_nil) (by rfl) (by rfl) (fun z => by cases z) (by decide)) pa_nil)) (pa_cons (pe_lst (pa_cons (pe_disp (pps_cons pe_int pe_int pps_nil) (by rfl) (by rfl) (fun z => by cases z) (by decide)) pa_nil)) (pa_cons (pe_lst (pa_cons (pv 0) pa_nil)) pa_nil)))) (pa_cons (pe_tup (pa_cons (pe_tup (pa_cons pe_int (pa_cons pe_int pa_nil))) pa_nil)) pa_nil)))))), ?_⟩
    refine ⟨_, rfl, c, rfl, _, rfl, iteF ?_⟩
    refine ⟨_, rfl, rfl, _, rfl, ?_⟩
    by_cases h0 : c = 0
    · have e0 : decide (V.int c = V.int 0) = true := by simp [h0]
      rw [e0]
      refine iteT ?_
      refine ⟨by show 0 ≤ sizeLine; decide, fun e ne => ⟨by show 0 ≤ sizeLine; decide, fun o no => ⟨by show 0 ≤ sizeLine; decide, fun st ns => ?_⟩⟩⟩
      have sa := same_new (o := .lst []) ne
      have sb := same_new (o := .lst []) no
      have sc := same_new (o := .lst []) ns
      have he := sc _ _ (sb _ _ (show (upd H e (.lst [])) e = some (.lst []) from upd_same))
      have ho := sc _ _ (show (upd (upd H e (.lst [])) o (.lst [])) o = some (.lst []) from upd_same)
      have hs : (upd (upd (upd H e (.lst [])) o (.lst [])) st (.lst [])) st = some (.lst []) := upd_same
      have s1 := (sa.trans sb).trans sc
      generalize (upd (upd (upd H e (.lst [])) o (.lst [])) st (.lst [])) = H1 at *
      intro x dxx nx ndx nex
      refine ⟨x, dxx, e, o, st, rfl, upd_same, fun t H2 nt ht hx hk => ⟨rfl, ?_⟩⟩
      have s2 : Same H1 H2 := Same.made nx ndx hk
      have hL : LinesAt K CL H2 x ⟨[], [], []⟩ := ⟨dxx, t, e, o, st, hx, SqT.of ht, ⟨[], SqL.of (s2 _ _ he), rfl, fun i h => absurd h (Nat.not_lt_zero i)⟩, ⟨[], SqL.of (s2 _ _ ho), rfl, fun i h => absurd h (Nat.not_lt_zero i)⟩, SqL.of (s2 _ _ hs)⟩
      intro m nm
      have s3 := same_new (o := .dK []) nm
      have hm : (upd H2 m (.dK [])) m = some (.dK []) := upd_same
      generalize (upd H2 m (.dK [])) = H3 at *
      refine ⟨by show 0 ≤ sizeLine; decide, fun t1 nt1 => ⟨by show 0 ≤ sizeLine; decide, fun t2 nt2 => ⟨by show 0 ≤ sizeLine; decide, fun t3 nt3 => ⟨by show 3 ≤ sizeLine; decide, fun tt ntt => ?_⟩⟩⟩⟩
      have sa := same_new (o := .tup []) nt1
      have sb := same_new (o := .tup []) nt2
      have sc := same_new (o := .tup []) nt3
      have sd := same_new (o := .tup [.ref t1, .ref t2, .ref t3]) ntt
      have g1 := sd _ _ (sc _ _ (sb _ _ (show (upd H3 t1 (.tup [])) t1 = some (.tup []) from upd_same)))
      have g2 := sd _ _ (sc _ _ (show (upd (upd H3 t1 (.tup [])) t2 (.tup [])) t2 = some (.tup []) from upd_same))
      have g3 := sd _ _ (show (upd (upd (upd H3 t1 (.tup [])) t2 (.tup [])) t3 (.tup [])) t3 = some (.tup []) from upd_same)
      have g4 : (upd (upd (upd (upd H3 t1 (.tup [])) t2 (.tup [])) t3 (.tup [])) tt (.tup [.ref t1, .ref t2, .ref t3])) tt = some (.tup [.ref t1, .ref t2, .ref t3]) := upd_same
      have s4 := ((sa.trans sb).trans sc).trans sd
      generalize (upd (upd (upd (upd H3 t1 (.tup [])) t2 (.tup [])) t3 (.tup [])) tt (.tup [.ref t1, .ref t2, .ref t3])) = H4 at *
      intro y dyy ny ndy ney
      refine ⟨y, dyy, x, m, tt, t1, t2, t3, rfl, upd_same, same_ins ny ndy _ _ g4, fun H5 hy hk => ⟨rfl, ?_⟩⟩
      have s5 : Same H4 H5 := Same.made ny ndy hk
      have s34 := s4.trans s5
      have s24 := s3.trans s34
      have el : constL c = ⟨[], [], []⟩ := if_pos h0
      have em : constM c = [] := if_pos h0
      have er : constR c = ⟨[], [], []⟩ := if_pos h0
      refine k H5 y (s1.trans (s2.trans s24)) ?_
      rw [el, em, er]
      exact ⟨dyy, x, m, t1, t2, t3, hy, hL.same s24, s34 _ _ hm, .tup (SqT.of (s5 _ _ g1)) .nil, .tup (SqT.of (s5 _ _ g2)) .nil, .tup (SqT.of (s5 _ _ g3)) .nil⟩
    · have e0 : decide (V.int c = V.int 0) = false := by simp [h0]
      rw [e0]
      refine iteF ?_
      refine fun m1 nm1 => ⟨upd_same, [(Sum.inl 0, V.int 1)], rfl, by show 1 ≤ 15; decide, ?_⟩
      have s1 : Same H (upd (upd H m1 (.dK [])) m1 (.dK (mergeK [] [(Sum.inl 0, V.int 1)]))) := by rw [upd_upd]; exact same_new nm1
      have h1 : (upd (upd H m1 (.dK [])) m1 (.dK (mergeK [] [(Sum.inl 0, V.int 1)]))) m1 = some (.dK (rowK [(0, 1)])) := by rw [upd_same]; rfl
      generalize (upd (upd H m1 (.dK [])) m1 (.dK (mergeK [] [(Sum.inl 0, V.int 1)]))) = H1 at *
      refine ⟨by show 1 ≤ sizeLine; decide, fun e ne => ?_⟩
      have s2 := same_new (o := .lst [.ref m1]) ne
      have he : (upd H1 e (.lst [.ref m1])) e = some (.lst [.ref m1]) := upd_same
      generalize (upd H1 e (.lst [.ref m1])) = H2 at *
      refine fun m2 nm2 => ⟨upd_same, [(Sum.inl 0, V.int 1)], rfl, by show 1 ≤ 15; decide, ?_⟩
      have s3 : Same H2 (upd (upd H2 m2 (.dK [])) m2 (.dK (mergeK [] [(Sum.inl 0, V.int 1)]))) := by rw [upd_upd]; exact same_new nm2
      have h2 : (upd (upd H2 m2 (.dK [])) m2 (.dK (mergeK [] [(Sum.inl 0, V.int 1)]))) m2 = some (.dK (rowK [(0, 1)])) := by rw [upd_same]; rfl
      generalize (upd (upd H2 m2 (.dK [])) m2 (.dK (mergeK [] [(Sum.inl 0, V.int 1)]))) = H3 at *
      refine ⟨by show 1 ≤ sizeLine; decide, fun o no => ?_⟩
      have s4 := same_new (o := .lst [.ref m2]) no
      have ho : (upd H3 o (.lst [.ref m2])) o = some (.lst [.ref m2]) := upd_same
      generalize (upd H3 o (.lst [.ref m2])) = H4 at *
      refine ⟨_, rfl, by show 1 ≤ sizeLine; decide, fun st ns => ?_⟩
      have s5 := same_new (o := .lst [.int c]) ns
      have hs : (upd H4 st (.lst [.int c])) st = some (.lst [.int c]) := upd_same
      generalize (upd H4 st (.lst [.int c])) = H5 at *
      intro x dxx nx ndx nex
      refine ⟨x, dxx, e, o, st, rfl, upd_same, fun t H6 nt ht hx hk => ⟨rfl, ?_⟩⟩
      have s6 : Same H5 H6 := Same.made nx ndx hk
      have s46 := s5.trans s6
      have s36 := s4.trans s46
      have s26 := s3.trans s36
      have s16 := s2.trans s26
      have hL : LinesAt K CL H6 x ⟨[[(0, 1)]], [[(0, 1)]], [c]⟩ := ⟨dxx, t, e, o, st, hx, SqT.of ht, ⟨[m1], SqL.of (s26 _ _ he), rfl, fun i h h' => by
          have : i = 0 := by simp at h; omega
          subst this; exact s16 _ _ h1⟩, ⟨[m2], SqL.of (s46 _ _ ho), rfl, fun i h h' => by
          have : i = 0 := by simp at h; omega
          subst this; exact s36 _ _ h2⟩, SqL.of (s6 _ _ hs)⟩
      refine ⟨by show 2 ≤ sizeLine; decide, fun t1 nt1 => ⟨by show 1 ≤ sizeLine; decide, fun b nb => ?_⟩⟩
      have sa := same_new (o := .tup [.int 0, .int 0]) nt1
      have sb := same_new (o := .tup [.ref t1]) nb
      have g1 := sb _ _ (show (upd H6 t1 (.tup [.int 0, .int 0])) t1 = some (.tup [.int 0, .int 0]) from upd_same)
      have g2 : (upd (upd H6 t1 (.tup [.int 0, .int 0])) b (.tup [.ref t1])) b = some (.tup [.ref t1]) := upd_same
      have s7 := sa.trans sb
      generalize (upd (upd H6 t1 (.tup [.int 0, .int 0])) b (.tup [.ref t1])) = H7 at *
      have el : constL c = ⟨[[(0, 1)]], [[(0, 1)]], [c]⟩ := if_neg h0
      have em : constM c = [(0, 1)] := if_neg h0
      have er : constR c = ruleB [(0, 0)] ⟨[[(0, 1)]], [[(0, 1)]], [c]⟩ := if_neg h0
      refine ⟨x, b, ⟨[[(0, 1)]], [[(0, 1)]], [c]⟩, [(0, 0)], [.ref t1], rfl, hL.same s7, rfl, by show 1 ≤ 900; decide, by decide, SqT.of g2, rfl, .tup (SqT.of g2) (.cons (.tup (SqT.of g1) (.cons (.int _) (.cons (.int _) .nil))) .nil), fun H' p s' hF => ?_⟩
      refine k H' p (((s1.trans s16).trans s7).trans s') ?_
      rw [el, em, er]
      exact hF
end
end L2.EH
end S_L14
section S_L15
set_option maxRecDepth 100000
set_option maxHeartbeats 4000000
namespace L2.EH
open PySem PySem.Spec PyProof.Rows StX
open L2.Halves (has keys Clean sumOf stepped Small WLines WOk WRow vat Rule numberLines number_rule)
/-! ### n -/
def numberR : Rule := ⟨[(0, 0), (1, 1)], [([(2, 1), (0, 1)], [(0, 1), (1, 1)]), ([(2, 1), (1, 1)], [(-2, 1), (3, 1)])], [0, 1]⟩
theorem wrow_number : ∀ r, r ∈ numberLines.evens ++ numberLines.odds → WRow 2 r ∧ Small 2 r := by
  intro r hr
  have : r = [(0, 2)] ∨ r = [(1, 1)] ∨ r = [(0, 2), (1, 1)] := by
    simp [numberLines] at hr
    rcases hr with h | h | h | h <;> simp [h]
  rcases this with rfl | rfl | rfl
  · exact ⟨⟨⟨by decide, by decide⟩, by decide⟩, by unfold Small; decide⟩
  · exact ⟨⟨⟨by decide, by decide⟩, by decide⟩, by unfold Small; decide⟩
  · exact ⟨⟨⟨by decide, by decide⟩, by decide⟩, by unfold Small; decide⟩
theorem wb_number : WB numberLines 2 1 2 where
  ok := { we := rfl, wo := rfl, re := fun r hr => (wrow_number r (List.mem_append_left _ hr)).1, ro := fun r hr => (wrow_number r (List.mem_append_right _ hr)).1, fit := by decide +kernel }
  len := by decide
  rows := fun d r hr => by
    unfold WLines.rows at hr
    split at hr
    · exact (wrow_number r (List.mem_append_left _ hr)).2
    · exact (wrow_number r (List.mem_append_right _ hr)).2
  st := by intro z hz; simp [numberLines] at hz; rcases hz with rfl | rfl <;> decide
  a0 := by decide
  b0 := by decide
  al := by decide
  bl := by decide
  cl := by decide
def spNumber (K : PySem.W.Frag) (CL CH : Addr) : Sp := fun vs H Q _ => vs = [] ∧ ∀ H' p, Same H H' → FnAt K CL CH H' p numberLines [(0, 1)] numberR → Q (.ref p) H'
theorem scNumber : FnScope ["lines"] [] (defScope sNumber) := ⟨rfl, rfl, rfl, by decide +kernel, rfl, by decide +kernel, by decide +kernel⟩
section
variable {P : Program} {w : World} {K : PySem.W.Frag} {mg : Str → Option Value} {base : Heap}
theorem ok_number {CL CH f fLI fHI fB : Addr} {fd fdLI fdHI fdB : FuncData} (F : Fun K "number" "number" sNumber f fd)
    (ML : Made P w K mg base 1 "Lines" CL fLI fdLI ["self", "evens", "odds", "starts"] (spLinesInit CL)) (MH : Made P w K mg base 1 "Halved" CH fHI fdHI ["self", "lines", "mix", "told"] (spHInit CH))
    (FR : Fn' P w K mg base 5 "least_rule" fB fdB ["lines", "mix"] (spLeastRule K CL)) : FnOk P w K mg base CX0 6 f fd [] (spNumber K CL CH) := by
  refine F.ok scNumber (fun vs H Q E h => ?_) (fun cdv A outer s H vs Q E hr h => ?_)
  · obtain ⟨rfl, _⟩ := h
    rfl
  · obtain ⟨rfl, k⟩ := h
    have nd := scNumber.nd
    refine ⟨_, pss_cons (ps_set (i := 0) nd rfl (Or.inl rfl) (pe_make ML.M ML.ok (by exact hr.mono (by decide)) (by rfl) ML.m ML.b .nil pass0 (pa_cons (pe_lst (pa_cons (pe_disp (pps_cons pe_int pe_int pps_nil) (by rfl) (by rfl) (fun z => by cases z) (by decide)) (pa_cons (pe_disp (pps_cons pe_int pe_int pps_nil) (by rfl) (by rfl) (fun z => by cases z) (by decide)) pa_nil)))
        (pa_cons (pe_lst (pa_cons (pe_disp (pps_cons pe_int pe_int (pps_cons pe_int pe_int pps_nil)) (by rfl) (by rfl) (fun z => by cases z) (by decide)) (pa_cons (pe_disp (pps_cons pe_int pe_int pps_nil) (by rfl) (by rfl) (fun z => by cases z) (by decide)) pa_nil))) (pa_cons (pe_lst (pa_cons pe_int (pa_cons pe_int pa_nil))) pa_nil)))))
      (pss_one (ps_ret (pe_make MH.M MH.ok (by exact hr.mono (by decide)) (by rfl) MH.m MH.b .nil pass0 (pa_cons (pv 0) (pa_cons (pe_disp (pps_cons pe_int pe_int pps_nil) (by rfl) (by rfl) (fun z => by cases z) (by decide)) (pa_cons (pe_call FR.ok (by exact hr.mono (by decide)) (by rfl) FR.m FR.k FR.b .nil pass0 (pa_cons (pv 0) (pa_cons (pe_disp (pps_cons pe_int pe_int pps_nil) (by rfl) (by rfl) (fun z => by cases z) (by decide)) pa_nil))) pa_nil)))))), ?_⟩
    have disp : ∀ (H : Hp) (m : Addr) (kvs : List (Key × V)) (r : Halves.Row), H m = none → mergeK [] kvs = rowK r → Same H (upd (upd H m (.dK [])) m (.dK (mergeK [] kvs))) ∧ (upd (upd H m (.dK [])) m (.dK (mergeK [] kvs))) m = some (.dK (rowK r)) := fun H m kvs r nm e => by
      rw [e]
      exact ⟨by rw [upd_upd]; exact same_new nm, upd_same⟩
    refine fun m1 nm1 => ⟨upd_same, [(Sum.inl 0, V.int 2)], rfl, by show 1 ≤ 15; decide, ?_⟩
    obtain ⟨s1, h1⟩ := disp H m1 [(Sum.inl 0, V.int 2)] [(0, 2)] nm1 rfl
    generalize (upd (upd H m1 (.dK [])) m1 (.dK (mergeK [] [(Sum.inl 0, V.int 2)]))) = H1 at *
    refine fun m2 nm2 => ⟨upd_same, [(Sum.inl 1, V.int 1)], rfl, by show 1 ≤ 15; decide, ?_⟩
    obtain ⟨s2, h2⟩ := disp H1 m2 [(Sum.inl 1, V.int 1)] [(1, 1)] nm2 rfl
    generalize (upd (upd H1 m2 (.dK [])) m2 (.dK (mergeK [] [(Sum.inl 1, V.int 1)]))) = H2 at *
    refine ⟨by show 2 ≤ sizeLine; decide, fun e ne => ?_⟩
    have s3 := same_new (o := .lst [.ref m1, .ref m2]) ne
    have he : (upd H2 e (.lst [.ref m1, .ref m2])) e = some (.lst [.ref m1, .ref m2]) := upd_same
    generalize (upd H2 e (.lst [.ref m1, .ref m2])) = H3 at *
    refine fun m3 nm3 => ⟨upd_same, [(Sum.inl 0, V.int 2), (Sum.inl 1, V.int 1)], rfl, by show 2 ≤ 15; decide, ?_⟩
    obtain ⟨s4, h3⟩ := disp H3 m3 [(Sum.inl 0, V.int 2), (Sum.inl 1, V.int 1)] [(0, 2), (1, 1)] nm3 rfl
    generalize (upd (upd H3 m3 (.dK [])) m3 (.dK (mergeK [] [(Sum.inl 0, V.int 2), (Sum.inl 1, V.int 1)]))) = H4 at *
    refine fun m4 nm4 => ⟨upd_same, [(Sum.inl 1, V.int 1)], rfl, by show 1 ≤ 15; decide, ?_⟩
    obtain ⟨s5, h4⟩ := disp H4 m4 [(Sum.inl 1, V.int 1)] [(1, 1)] nm4 rfl
    generalize (upd (upd H4 m4 (.dK [])) m4 (.dK (mergeK [] [(Sum.inl 1, V.int 1)]))) = H5 at *
    refine ⟨by show 2 ≤ sizeLine; decide, fun o no => ?_⟩
    have s6 := same_new (o := .lst [.ref m3, .ref m4]) no
    have ho : (upd H5 o (.lst [.ref m3, .ref m4])) o = some (.lst [.ref m3, .ref m4]) := upd_same
    generalize (upd H5 o (.lst [.ref m3, .ref m4])) = H6 at *
    refine ⟨by show 2 ≤ sizeLine; decide, fun st ns => ?_⟩
    have s7 := same_new (o := .lst [.int 0, .int 1]) ns
    have hs : (upd H6 st (.lst [.int 0, .int 1])) st = some (.lst [.int 0, .int 1]) := upd_same
    generalize (upd H6 st (.lst [.int 0, .int 1])) = H7 at *
    intro x dxx nx ndx nex
    refine ⟨x, dxx, e, o, st, rfl, upd_same, fun t H8 nt ht hx hk => ⟨rfl, ?_⟩⟩
    have s8 : Same H7 H8 := Same.made nx ndx hk
    have s68 := s7.trans s8
    have s58 := s6.trans s68
    have s48 := s5.trans s58
    have s38 := s4.trans s48
    have s28 := s3.trans s38
    have s18 := s2.trans s28
    have hL : LinesAt K CL H8 x numberLines := ⟨dxx, t, e, o, st, hx, SqT.of ht, ⟨[m1, m2], SqL.of (s38 _ _ he), rfl, fun i h h' => by
        have : i = 0 ∨ i = 1 := by simp at h; omega
        rcases this with rfl | rfl
        · exact s18 _ _ h1
        · exact s28 _ _ h2⟩, ⟨[m3, m4], SqL.of (s68 _ _ ho), rfl, fun i h h' => by
        have : i = 0 ∨ i = 1 := by simp at h; omega
        rcases this with rfl | rfl
        · exact s48 _ _ h3
        · exact s58 _ _ h4⟩, SqL.of (s8 _ _ hs)⟩
    refine ⟨_, rfl, fun m nm => ⟨upd_same, [(Sum.inl 0, V.int 1)], rfl, by show 1 ≤ 15; decide, ?_⟩⟩
    obtain ⟨s9, h5⟩ := disp H8 m [(Sum.inl 0, V.int 1)] [(0, 1)] nm rfl
    generalize (upd (upd H8 m (.dK [])) m (.dK (mergeK [] [(Sum.inl 0, V.int 1)]))) = H9 at *
    refine ⟨_, rfl, fun m' nm' => ⟨upd_same, [(Sum.inl 0, V.int 1)], rfl, by show 1 ≤ 15; decide, ?_⟩⟩
    obtain ⟨s10, h6⟩ := disp H9 m' [(Sum.inl 0, V.int 1)] [(0, 1)] nm' rfl
    generalize (upd (upd H9 m' (.dK [])) m' (.dK (mergeK [] [(Sum.inl 0, V.int 1)]))) = H10 at *
    have s810 := s9.trans s10
    refine ⟨x, m', numberLines, [(0, 1)], 40, 2, 1, 2, numberR, rfl, hL.same s810, wb_number, h6, by decide, by decide, number_rule, fun H11 q b1 b2 b3 s11 hq d1 d2 d3 => ?_⟩
    intro y dyy ny ndy ney
    refine ⟨y, dyy, x, m, q, b1, b2, b3, rfl, upd_same, same_ins ny ndy _ _ hq, fun H12 hy hk => ⟨rfl, ?_⟩⟩
    have s12 : Same H11 H12 := Same.made ny ndy hk
    have sA := s11.trans s12
    have sB := s10.trans sA
    have sC := s9.trans sB
    exact k H12 y ((s1.trans s18).trans sC) ⟨dyy, x, m, b1, b2, b3, hy, hL.same sC, sB _ _ h5, dp_same s12 d1, dp_same s12 d2, dp_same s12 d3⟩
end
end L2.EH
end S_L15
section S_L16
set_option maxRecDepth 100000
set_option maxHeartbeats 4000000
namespace L2.EH
open PySem PySem.Spec PyProof.Rows StX
open L2.Halves (has keys Clean sumOf stepped Small WLines WOk WRow vat Rule)
/-! ### singles -/
def bitsN (n : Nat) : Nat := Builtin.Int.intBits (n : Int)
theorem bitsN_le (n k : Nat) : bitsN n ≤ k ↔ n < 2 ^ k := by
  have e : bitsN n = if n = 0 then 0 else n.log2 + 1 := by
    unfold bitsN Builtin.Int.intBits
    by_cases h : n = 0
    · subst h; rfl
    · rw [if_neg h, if_neg (by simpa using h)]; rfl
  rw [e]
  by_cases h : n = 0
  · subst h
    rw [if_pos rfl]
    exact ⟨fun _ => Nat.two_pow_pos k, fun _ => Nat.zero_le _⟩
  · rw [if_neg h, ← Nat.log2_lt h]; exact Nat.succ_le_iff
def sFol (i : Nat) : Halves.Row := [(i + 1, 1)]
def sEv (n i : Nat) : Halves.Row := if n / 2 ^ i % 2 = 0 then sFol i else []
def sOd (n i : Nat) : Halves.Row := if n / 2 ^ i % 2 = 1 then sFol i else []
def singleL (n d : Nat) : WLines := ⟨(List.range d).map (sEv n) ++ [[(d, 1)]], (List.range d).map (sOd n) ++ [[]], List.replicate d 0 ++ [1]⟩
def singleB (n d : Nat) : List (Nat × Nat) := (List.range (d + 1)).map fun k => (k, n % 2 ^ k)
def singleR (n d : Nat) : Rule := ruleB (singleB n d) (singleL n d)
def spSingle (K : PySem.W.Frag) (CL CH CT : Addr) : Sp := fun vs H Q E => ∃ n : Nat, vs = [.int (n : Int)] ∧ (n : Int) ≤ big ∧ (2 ^ 15 ≤ n → E (.ref CT) none H) ∧ (n < 2 ^ 15 → ∀ H' p, Same H H' → FnAt K CL CH H' p (singleL n (bitsN n)) [(0, 1)] (singleR n (bitsN n)) → Q (.ref p) H')
theorem scSingle : FnScope ["n", "last", "following", "evens", "odds", "basis", "at", "mix", "depth"] ["n"] (defScope sSingle) := ⟨rfl, rfl, rfl, by decide +kernel, rfl, by decide +kernel, by decide +kernel⟩
/-- dicts at addresses -/
def RowsL (H : Hp) (es : List Addr) (M : List Halves.Row) : Prop := es.length = M.length ∧ ∀ i (h : i < es.length) (h' : i < M.length), H es[i] = some (.dK (rowK M[i]))
theorem RowsL.same {H H' : Hp} {es : List Addr} {M : List Halves.Row} (h : RowsL H es M) (s : Same H H') : RowsL H' es M := ⟨h.1, fun i a b => s _ _ (h.2 i a b)⟩
theorem RowsL.keep {H : Hp} {es : List Addr} {M : List Halves.Row} (h : RowsL H es M) {D : Addr} {xs : List V} {o : HO} (hD : H D = some (.lst xs)) : RowsL (upd H D o) es M := ⟨h.1, fun i a b => by
  have e := h.2 i a b
  rw [upd_ne (by intro z; rw [z, hD] at e; cases e)]; exact e⟩
theorem RowsL.snoc {H : Hp} {es : List Addr} {M : List Halves.Row} {x : Addr} {r : Halves.Row} (h : RowsL H es M) (hx : H x = some (.dK (rowK r))) : RowsL H (es ++ [x]) (M ++ [r]) := by
  refine ⟨by simp [h.1], fun i a b => ?_⟩
  by_cases hi : i < es.length
  · have hi' : i < M.length := h.1 ▸ hi
    rw [List.getElem_append_left hi, List.getElem_append_left hi']; exact h.2 i hi hi'
  · have e : i = es.length := by simp at a; omega
    have e' : i = M.length := by rw [← h.1]; exact e
    have e1 : (es ++ [x])[i] = x := by subst e; simp
    have e2 : (M ++ [r])[i] = r := by subst e'; simp
    rw [e1, e2]; exact hx
theorem RowsL.at {K : PySem.W.Frag} {H : Hp} {a : Addr} {es : List Addr} {M : List Halves.Row} (h : RowsL H es M) (s : SqL K H a (es.map V.ref)) : RowsAt K H a M := ⟨es, s, h.1, h.2⟩
def PRows (H : Hp) (D : Addr) (f : Nat → Halves.Row) (i : Nat) (Hc : Hp) : Prop := Same H Hc ∧ ∃ es : List Addr, Hc D = some (.lst (es.map V.ref)) ∧ RowsL Hc es ((List.range i).map f)
theorem PRows.start {H : Hp} {D : Addr} {f : Nat → Halves.Row} (nD : H D = none) : PRows H D f 0 (upd H D (.lst [])) := ⟨same_new nD, [], upd_same, rfl, fun i a => absurd a (Nat.not_lt_zero i)⟩
theorem PRows.turn {H Hc H2 : Hp} {D x : Addr} {f : Nat → Halves.Row} {i : Nat} {es : List Addr} (hs : Same H Hc) (nD : H D = none) (hD : Hc D = some (.lst (es.map V.ref))) (hr : RowsL Hc es ((List.range i).map f)) (s2 : Same Hc H2) (hx : H2 x = some (.dK (rowK (f i)))) :
    H2 D = some (.lst (es.map V.ref)) ∧ PRows H D f (i + 1) (upd H2 D (.lst (es.map V.ref ++ [.ref x]))) := by
  have hD2 := s2 _ _ hD
  refine ⟨hD2, fun b o e => ?_, es ++ [x], by rw [upd_same, List.map_append]; rfl, ?_⟩
  · rw [upd_ne (by intro z; rw [z, nD] at e; cases e)]; exact s2 _ _ (hs _ _ e)
  · rw [List.range_succ, List.map_append]
    exact ((hr.same s2).snoc hx).keep hD2
theorem disp_at {H : Hp} {m : Addr} {kvs : List (Key × V)} {r : Halves.Row} (nm : H m = none) (e : mergeK [] kvs = rowK r) : Same H (upd (upd H m (.dK [])) m (.dK (mergeK [] kvs))) ∧ (upd (upd H m (.dK [])) m (.dK (mergeK [] kvs))) m = some (.dK (rowK r)) := by
  rw [e]
  exact ⟨by rw [upd_upd]; exact same_new nm, upd_same⟩
theorem small1000' {n : Nat} (h : n ≤ 1000) : n ≤ sizeLine := by rw [sizeLine_eq]; omega
theorem rep_int (d : Nat) : (List.replicate d [V.int 0]).flatten = (List.replicate d (0 : Int)).map V.int := by
  induction d with
  | zero => rfl
  | succ d ih => rw [List.replicate_succ, List.replicate_succ, List.flatten_cons, ih]; rfl
section
variable {P : Program} {w : World} {K : PySem.W.Frag} {mg : Str → Option Value} {base : Heap}
theorem ok_single {CL CH CT f fI fLI fB : Addr} {fd fdI fdLI fdB : FuncData} {tR : Tok} (F : Fun K "single" "single" sSingle f fd) (B : Nm7 mg) (B8 : Nm8 mg) (B9 : Nm9 mg) (FI : Fn' P w K mg base 3 "is_number" fI fdI ["value"] spIsNumber) (hR : mg "RANK" = some (.int 16 tR))
    (xT : PySem.W.excIn K CT [.type "ArithmeticError", .type "Exception", .type "BaseException", .type "object"] "ArithmeticError.__new__" = true) (gT : mg "TooMany" = some (.ref CT)) (kT : PySem.W.keepIn K (.ref CT) = true) (bT : PySem.W.subIn K (.ref CT) (.type "BaseException") = some true) (tT : PySem.W.typeIn K (.ref CT) = some (.type "type"))
    (ML : Made P w K mg base 1 "Lines" CL fLI fdLI ["self", "evens", "odds", "starts"] (spLinesInit CL))
    (FB : Fn' P w K mg base 3 "function_of_basis" fB fdB ["lines", "basis"] (spOfBasis K CL CH)) : FnOk P w K mg base (L2.CX P w) 4 f fd ["n"] (spSingle K CL CH CT) := by
  refine F.okX scSingle (fun vs H Q E h => ?_) (fun cdv A outer s H vs Q E hr h => ?_)
  · obtain ⟨n, rfl, _⟩ := h
    rfl
  · obtain ⟨n, rfl, hn, kE, k⟩ := h
    have nd := scSingle.nd
    refine ⟨_, pss_cons (ps_if (pt_not (pt_val (pe_call FI.ok (by exact hr.mono (by decide)) (by rfl) FI.m FI.k FI.b .nil pass0 (pa_cons (pv 0) pa_nil)))) (pss_one ps_never) pss_nil)
      (pss_cons (ps_set (i := 1) nd rfl (Or.inl rfl) (pe_bits (pv 0)))
      (pss_cons (ps_if (pt_cmpR op_gt (pe_op op_add (pv 1) pe_int) (pe_glob (v := .int 16) rfl hR ⟨_, rfl⟩) (nomark _)) (pss_one (ps_raise rfl (takes_of rfl rfl rfl rfl) (pmk_own0 PySem.F.excBase_ArithmeticError xT gT kT (raises_own bT tT) rfl))) pss_nil)
      (pss_cons (ps_setLc (i := 2) (own := [("at", 6)]) (g := gName 6) (tt := tYes) (by rfl) nd rfl rfl (sw_true rfl rfl rfl (by decide +kernel)) (pi_range1 (by rfl) B.range (pa_cons (pv 1) pa_nil)) (blkOk_by (N := ["n", "last", "following", "evens", "odds", "basis", "at", "mix", "depth"]) (sc := defScope sSingle) (by decide +kernel))
        (fun _ _ _ _ _ => pg_name (i := 6) nd rfl (Or.inl rfl) (Or.inr rfl)) (fun _ _ _ _ _ => pts_nil)
        (fun _ _ _ _ _ => pe_disp (pps_cons (pe_op op_add (pv 6) pe_int) pe_int pps_nil) (by rfl) (by rfl) (fun z => by cases z) (by decide)))
      (pss_cons (ps_setLc (i := 3) (own := [("at", 6), ("mix", 7)]) (g := gTup K 2 (gCons (gName 6) (gCons (gName 7) gNil))) (tt := tYes) (by rfl) nd rfl rfl (sw_true rfl rfl rfl (by decide +kernel)) (pi_enum (by rfl) B9.enum (pa_cons (pv 2) pa_nil)) (blkOk_by (N := ["n", "last", "following", "evens", "odds", "basis", "at", "mix", "depth"]) (sc := defScope sSingle) (by decide +kernel))
        (fun _ _ _ _ _ => pg_tup rfl (pgs_cons (pg_name (i := 6) nd rfl (Or.inl rfl) (Or.inr rfl)) (pgs_cons (pg_name (i := 7) nd rfl (Or.inl rfl) (Or.inr rfl)) pgs_nil rfl) rfl) rfl rfl) (fun _ _ _ _ _ => pts_nil)
        (fun _ _ _ _ _ => pe_ifExp (pt_cmpR op_eq (pe_op op_andM (pe_op op_shrN (pv 0) (pv 6)) pe_int) pe_int (nomark _)) (pv 7) pe_dnewK))
      (pss_cons (ps_setLc (i := 4) (own := [("at", 6), ("mix", 7)]) (g := gTup K 2 (gCons (gName 6) (gCons (gName 7) gNil))) (tt := tYes) (by rfl) nd rfl rfl (sw_true rfl rfl rfl (by decide +kernel)) (pi_enum (by rfl) B9.enum (pa_cons (pv 2) pa_nil)) (blkOk_by (N := ["n", "last", "following", "evens", "odds", "basis", "at", "mix", "depth"]) (sc := defScope sSingle) (by decide +kernel))
        (fun _ _ _ _ _ => pg_tup rfl (pgs_cons (pg_name (i := 6) nd rfl (Or.inl rfl) (Or.inr rfl)) (pgs_cons (pg_name (i := 7) nd rfl (Or.inl rfl) (Or.inr rfl)) pgs_nil rfl) rfl) rfl rfl) (fun _ _ _ _ _ => pts_nil)
        (fun _ _ _ _ _ => pe_ifExp (pt_cmpR op_eq (pe_op op_andM (pe_op op_shrN (pv 0) (pv 6)) pe_int) pe_int (nomark _)) (pv 7) pe_dnewK))
      (pss_cons (ps_set (i := 5) nd rfl (Or.inl rfl) (pe_callTy call_tuple_of (by rfl) B8.tuple (by decide +kernel) (pa_cons (pe_lc (own := [("depth", 8)]) (g := gName 8) (tt := tYes) rfl nd (pi_range1 (by rfl) B.range (pa_cons (pe_op op_add (pv 1) pe_int) pa_nil)) (blkOk_by (N := ["n", "last", "following", "evens", "odds", "basis", "at", "mix", "depth"]) (sc := defScope sSingle) (by decide +kernel))
        (fun _ _ _ _ _ => pg_name (i := 8) nd rfl (Or.inl rfl) (Or.inr rfl)) (fun _ _ _ _ _ => pts_nil)
        (fun _ _ _ _ _ => pe_tup (pa_cons (pv 8) (pa_cons (pe_op op_andM (pv 0) (pe_op op_sub (pe_op op_oneShl pe_int (pv 8)) pe_int)) pa_nil)))) pa_nil)))
      (pss_one (ps_ret (pe_call FB.ok (by exact hr.mono (by decide)) (by rfl) FB.m FB.k FB.b .nil pass0 (pa_cons (pe_make ML.M ML.ok (by exact hr.mono (by decide)) (by rfl) ML.m ML.b .nil pass0 (pa_cons (pe_lst (pa_star (pv 3) (pa_cons (pe_disp (pps_cons (pv 1) pe_int pps_nil) (by rfl) (by rfl) (fun z => by cases z) (by decide)) pa_nil)))
        (pa_cons (pe_lst (pa_star (pv 4) (pa_cons pe_dnewK pa_nil))) (pa_cons (pe_lst (pa_star (pe_op op_rep (pe_lst (pa_cons pe_int pa_nil)) (pv 1)) (pa_cons pe_int pa_nil))) pa_nil)))) (pa_cons (pv 5) pa_nil))))))))))), ?_⟩
    have ed : decide (0 ≤ (n : Int) ∧ (n : Int) ≤ big) = true := decide_eq_true ⟨Int.natCast_nonneg n, hn⟩
    refine ⟨_, rfl, (n : Int), rfl, _, rfl, ?_⟩
    rw [ed]
    refine iteF ?_
    refine ⟨_, rfl, (n : Int), rfl, ?_⟩
    have hd : (Builtin.Int.intBits (n : Int) : Nat) = bitsN n := rfl
    rw [hd]
    have hle := bitsN_le n 15
    generalize bitsN n = d at *
    refine ⟨_, rfl, _, _, rfl, rfl, _, _, rfl, rfl, _, rfl, ?_⟩
    by_cases h15 : 2 ^ 15 ≤ n
    · have e : decide ((16 : Int) < (d : Int) + 1) = true := decide_eq_true (by omega)
      rw [e]
      exact iteT (kE h15)
    · have e : decide ((16 : Int) < (d : Int) + 1) = false := decide_eq_false (by omega)
      rw [e]
      refine iteF ?_
      have hd15 : d ≤ 15 := hle.2 (by omega)
      clear kE e ed
      refine ⟨_, rfl, (d : Int), rfl, by omega, by omega, fun D nD => ?_⟩
      have en : (((d : Int)).toNat) = d := by omega
      refine lc_out walk_range (PRows H D sFol) (PRows.start nD) (fun _ _ _ _ => trivial) ?_ ?_
      · rintro i x Hc H' hi ⟨hs, es, hD, hrow⟩ ⟨rfl, rfl⟩
        have him : i < d := by omega
        have eI : ((0 : Int) + (i : Nat)) = (i : Int) := by omega
        have hel : es.length = i := by rw [hrow.1]; simp
        show gName 6 (V.int (0 + (i : Nat))) _ _ _
        rw [eI]
        refine ⟨rfl, ?_⟩
        refine fun m nm => ⟨_, rfl, _, _, rfl, rfl, upd_same, [(Sum.inl ((i : Int) + 1), V.int 1)], rfl, by show 1 ≤ 15; decide, ?_⟩
        obtain ⟨sm, hm⟩ := disp_at (m := m) (kvs := [(Sum.inl ((i : Int) + 1), V.int 1)]) (r := sFol i) nm rfl
        obtain ⟨hD2, hP⟩ := PRows.turn hs nD hD hrow sm hm
        exact ⟨_, hD2, small1000 (by simp; omega), hP⟩
      · rintro H1 ⟨s1, es, hD, hrow⟩
        rw [en] at hrow
        have hel : es.length = d := by rw [hrow.1]; simp
        have half : ∀ (H2 : Hp) (f : Nat → Halves.Row) (b : Int) (D2 : Addr), Same H1 H2 → H2 D2 = none → ∀ (i : Nat) (Hc : Hp) (T : Addr), i < d → PRows H2 D2 f i Hc → Hc T = none → ∃ (hl : i < es.length) (es2 : List Addr) (hD2 : Hc D2 = some (.lst (es2.map V.ref))), (es2.map V.ref).length < sizeLine ∧ (upd Hc T (.tup [.int (i : Nat), .ref es[i]])) es[i] = some (.dK (rowK (sFol i))) ∧
            ∀ x H3, Same (upd Hc T (.tup [.int (i : Nat), .ref es[i]])) H3 → H3 x = some (.dK (rowK (f i))) → H3 D2 = some (.lst (es2.map V.ref)) ∧ PRows H2 D2 f (i + 1) (upd H3 D2 (.lst (es2.map V.ref ++ [.ref x]))) := by
          rintro H2 f b D2 s2 nD2 i Hc T hi ⟨hs, es2, hD2, hrow2⟩ nT
          have hl : i < es.length := by omega
          have hel2 : es2.length = i := by rw [hrow2.1]; simp
          have sT := same_new (o := .tup [.int (i : Nat), .ref es[i]]) nT
          refine ⟨hl, es2, hD2, small1000 (by simp; omega), ?_, fun x H3 s3 hx => PRows.turn hs nD2 hD2 hrow2 (sT.trans s3) hx⟩
          have := hrow.2 i hl (by simp; omega)
          rw [List.getElem_map, List.getElem_range] at this
          exact sT _ _ (hs _ _ (s2 _ _ this))
        have elen : (es.map V.ref).length = d := by simp [hel]
        have ebit : ∀ i : Nat, ((n : Int) / 2 ^ i % 2 ^ 1) = ((n / 2 ^ i % 2 : Nat) : Int) := fun i => by
          rw [Int.natCast_emod, Int.natCast_ediv, Int.natCast_pow]; rfl
        refine ⟨_, rfl, D, _, rfl, SqL.of hD, fun D2 nD2 => ?_⟩
        refine lc_out walk_enum (PRows H1 D2 (sEv n)) (PRows.start nD2) (fun i Hc _ hP => SqL.of (hP.1 _ _ hD)) ?_ ?_
        · rintro i x Hc H' hi hP ⟨T, vx, vy, rfl, nT, rfl, hvx, hvy⟩
          have him : i < d := by rw [← elen]; exact hi
          obtain ⟨hl, es2, hD2, hz, hrowi, fin⟩ := half H1 (sEv n) 0 D2 (fun _ _ h => h) nD2 i Hc T him hP nT
          replace hvx : some (V.int (i : Nat)) = some vx := hvx
          replace hvy : (es.map V.ref)[i]? = some vy := hvy
          rw [List.getElem?_map, List.getElem?_eq_getElem hl] at hvy
          injection hvx with hvx
          injection hvy with hvy
          subst hvx hvy
          refine ⟨T, _, rfl, SqT.of upd_same, rfl, _, _, rfl, _, _, rfl, rfl, rfl, ?_⟩
          refine ⟨_, rfl, _, rfl, (n : Int), i, rfl, rfl, _, 1, rfl, rfl, rfl, _, rfl, ?_⟩
          rw [ebit]
          by_cases hb : n / 2 ^ i % 2 = 0
          · have e1 : decide (V.int ((n / 2 ^ i % 2 : Nat) : Int) = V.int 0) = true := by rw [hb]; rfl
            rw [e1]
            obtain ⟨hD3, hP3⟩ := fin es[i] _ (fun _ _ h => h) (by rw [sEv, if_pos hb]; exact hrowi)
            exact iteT ⟨_, rfl, _, hD3, hz, hP3⟩
          · have e1 : decide (V.int ((n / 2 ^ i % 2 : Nat) : Int) = V.int 0) = false := by
              apply decide_eq_false
              intro z
              injection z with z
              exact hb (by omega)
            rw [e1]
            refine iteF fun m nm => ?_
            obtain ⟨hD3, hP3⟩ := fin m _ (same_new (o := .dK []) nm) (by rw [upd_same, sEv, if_neg hb]; rfl)
            exact ⟨_, hD3, hz, hP3⟩
        · rintro H2 ⟨s2, es2, hD2, hrow2⟩
          rw [elen] at hrow2
          refine ⟨_, rfl, D, _, rfl, SqL.of (s2 _ _ hD), fun D3 nD3 => ?_⟩
          refine lc_out walk_enum (PRows H2 D3 (sOd n)) (PRows.start nD3) (fun i Hc _ hP => SqL.of (hP.1 _ _ (s2 _ _ hD))) ?_ ?_
          · rintro i x Hc H' hi hP ⟨T, vx, vy, rfl, nT, rfl, hvx, hvy⟩
            have him : i < d := by rw [← elen]; exact hi
            obtain ⟨hl, es3, hD3, hz, hrowi, fin⟩ := half H2 (sOd n) 0 D3 s2 nD3 i Hc T him hP nT
            replace hvx : some (V.int (i : Nat)) = some vx := hvx
            replace hvy : (es.map V.ref)[i]? = some vy := hvy
            rw [List.getElem?_map, List.getElem?_eq_getElem hl] at hvy
            injection hvx with hvx
            injection hvy with hvy
            subst hvx hvy
            refine ⟨T, _, rfl, SqT.of upd_same, rfl, _, _, rfl, _, _, rfl, rfl, rfl, ?_⟩
            refine ⟨_, rfl, _, rfl, (n : Int), i, rfl, rfl, _, 1, rfl, rfl, rfl, _, rfl, ?_⟩
            rw [ebit]
            by_cases hb : n / 2 ^ i % 2 = 1
            · have e1 : decide (V.int ((n / 2 ^ i % 2 : Nat) : Int) = V.int 1) = true := by rw [hb]; rfl
              rw [e1]
              obtain ⟨hD4, hP3⟩ := fin es[i] _ (fun _ _ h => h) (by rw [sOd, if_pos hb]; exact hrowi)
              exact iteT ⟨_, rfl, _, hD4, hz, hP3⟩
            · have e1 : decide (V.int ((n / 2 ^ i % 2 : Nat) : Int) = V.int 1) = false := by
                apply decide_eq_false
                intro z
                injection z with z
                exact hb (by omega)
              rw [e1]
              refine iteF fun m nm => ?_
              obtain ⟨hD4, hP3⟩ := fin m _ (same_new (o := .dK []) nm) (by rw [upd_same, sOd, if_neg hb]; rfl)
              exact ⟨_, hD4, hz, hP3⟩
          · rintro H3 ⟨s3, es3, hD3, hrow3⟩
            rw [elen] at hrow3
            have hel2 : es2.length = d := by rw [hrow2.1]; simp
            have hel3 : es3.length = d := by rw [hrow3.1]; simp
            refine ⟨_, rfl, _, _, rfl, rfl, (d : Int) + 1, rfl, by omega, by omega, fun D4 nD4 => ?_⟩
            have en1 : (((d : Int) + 1).toNat) = d + 1 := by omega
            refine lc_out walk_range (fun i Hc => Same H3 Hc ∧ ∃ vs : List V, Hc D4 = some (.lst vs) ∧ vs.length = i ∧ DpAll K Hc vs (((List.range i).map fun k => (k, n % 2 ^ k)).map fun p : Nat × Nat => PyData.tuple [.int (p.1 : Int), .int (p.2 : Int)])) ⟨same_new nD4, [], upd_same, rfl, .nil⟩ (fun _ _ _ _ => trivial) ?_ ?_
            · rintro i x Hc H' hi ⟨hs, vs, hD4, hvl, hv⟩ ⟨rfl, rfl⟩
              have him : i < d + 1 := by omega
              have eI : ((0 : Int) + (i : Nat)) = (i : Int) := by omega
              show gName 8 (V.int (0 + (i : Nat))) _ _ _
              rw [eI]
              refine ⟨rfl, ?_⟩
              refine ⟨_, rfl, _, rfl, _, rfl, i, rfl, rfl, by omega, _, _, rfl, rfl, (n : Int), i, rfl, rfl, by show 2 ≤ sizeLine; decide, fun t nt => ?_⟩
              have st := same_new (o := .tup [.int (i : Int), .int ((n : Int) % 2 ^ i)]) nt
              have hD5 := st _ _ hD4
              refine ⟨_, hD5, small1000 (by omega), fun b o e => ?_, vs ++ [.ref t], by rw [upd_same], by simp [hvl], ?_⟩
              · rw [upd_ne (by intro z; rw [z, nD4] at e; cases e)]; exact st _ _ (hs _ _ e)
              · rw [List.range_succ, List.map_append, List.map_append]
                have ec : ((n : Int) % 2 ^ i) = ((n % 2 ^ i : Nat) : Int) := by rw [Int.natCast_emod, Int.natCast_pow]; rfl
                have hpt : ∀ p : Nat × Nat, tupOnly (PyData.tuple [.int (p.1 : Int), .int (p.2 : Int)]) = true := fun p => by simp [tupOnly, tupsOnly]
                rw [ec] at st hD5 ⊢
                exact dpAll_snoc (dp_keep (keepD_lst hD5) (hpt (i, n % 2 ^ i)) (.tup (SqT.of upd_same) (.cons (.int _) (.cons (.int _) .nil)))) (dpAll_keep (keepD_lst hD5) (tupsOnly_map _ hpt _) (dpAll_same st hv))
            · rintro H4 ⟨s4, vs, hD4, hvl, hv⟩
              rw [en1] at hv hvl
              refine ⟨D4, vs, rfl, .inl ⟨SqL.of hD4, fun b nb => ?_⟩⟩
              have s5 := same_new (o := .tup vs) nb
              have hb : (upd H4 b (.tup vs)) b = some (.tup vs) := upd_same
              have hv5 := dpAll_same s5 hv
              have s15 := (s2.trans s3).trans (s4.trans s5)
              have hD2' := (s3.trans (s4.trans s5)) _ _ hD2
              have hD3' := (s4.trans s5) _ _ hD3
              have hrow2' := hrow2.same (s3.trans (s4.trans s5))
              have hrow3' := hrow3.same (s4.trans s5)
              have s05 := s1.trans s15
              clear hv s5 s4 s3 s2 s1 hD hrow half hD2 hD3 hrow2 hrow3 s15 hD4
              generalize (upd H4 b (.tup vs)) = H5 at *
              refine ⟨_, rfl, D2, _, rfl, .inr (SqL.of hD2'), fun m nm => ⟨_, rfl, upd_same, [(Sum.inl (d : Int), V.int 1)], rfl, by show 1 ≤ 15; decide, ?_⟩⟩
              obtain ⟨s6, hm⟩ := disp_at (H := H5) (m := m) (kvs := [(Sum.inl (d : Int), V.int 1)]) (r := [(d, 1)]) nm rfl
              generalize (upd (upd H5 m (.dK [])) m (.dK (mergeK [] [(Sum.inl (d : Int), V.int 1)]))) = H6 at *
              refine ⟨small1000' (by simp; omega), fun ae nae => ?_⟩
              have s7 := same_new (o := .lst (es2.map V.ref ++ [.ref m])) nae
              have hae : (upd H6 ae (.lst (es2.map V.ref ++ [.ref m]))) ae = some (.lst ((es2 ++ [m]).map V.ref)) := by rw [upd_same, List.map_append]; rfl
              have hrE := ((hrow2'.same s6).snoc hm).same s7
              generalize (upd H6 ae (.lst (es2.map V.ref ++ [.ref m]))) = H7 at *
              have hD3'' := s7 _ _ (s6 _ _ hD3')
              refine ⟨_, rfl, D3, _, rfl, .inr (SqL.of hD3''), fun m2 nm2 => ?_⟩
              have s8 := same_new (o := .dK []) nm2
              have hm2 : (upd H7 m2 (.dK [])) m2 = some (.dK (rowK [])) := upd_same
              generalize (upd H7 m2 (.dK [])) = H8 at *
              refine ⟨small1000' (by simp; omega), fun ao nao => ?_⟩
              have s9 := same_new (o := .lst (es3.map V.ref ++ [.ref m2])) nao
              have hao : (upd H8 ao (.lst (es3.map V.ref ++ [.ref m2]))) ao = some (.lst ((es3 ++ [m2]).map V.ref)) := by rw [upd_same, List.map_append]; rfl
              have hrO := ((hrow3'.same ((s6.trans s7).trans s8)).snoc hm2).same s9
              generalize (upd H8 ao (.lst (es3.map V.ref ++ [.ref m2]))) = H9 at *
              refine ⟨by show 1 ≤ sizeLine; decide, fun z nz => ?_⟩
              have s10 := same_new (o := .lst [.int 0]) nz
              have hz : (upd H9 z (.lst [.int 0])) z = some (.lst [.int 0]) := upd_same
              generalize (upd H9 z (.lst [.int 0])) = H10 at *
              refine ⟨_, rfl, z, (d : Int), [.int 0], rfl, rfl, hz, by omega, by omega, small1000' (by simp; omega), fun r nr => ?_⟩
              rw [en, rep_int]
              have s11 := same_new (o := .lst ((List.replicate d (0 : Int)).map V.int)) nr
              refine ⟨r, _, rfl, .inr (SqL.of upd_same), ?_⟩
              generalize (upd H10 r (.lst ((List.replicate d (0 : Int)).map V.int))) = H11 at *
              refine ⟨small1000' (by simp; omega), fun st nst => ?_⟩
              have s12 := same_new (o := .lst ((List.replicate d (0 : Int)).map V.int ++ [.int 1])) nst
              have hst : (upd H11 st (.lst ((List.replicate d (0 : Int)).map V.int ++ [.int 1]))) st = some (.lst ((List.replicate d (0 : Int) ++ [1]).map V.int)) := by rw [upd_same, List.map_append]; rfl
              generalize (upd H11 st (.lst ((List.replicate d (0 : Int)).map V.int ++ [.int 1]))) = H12 at *
              intro x dxx nx ndx nex
              refine ⟨x, dxx, ae, ao, st, rfl, upd_same, fun t H13 nt ht hx hk => ⟨rfl, ?_⟩⟩
              have s13 : Same H12 H13 := Same.made nx ndx hk
              have sO := ((s10.trans s11).trans s12).trans s13
              have sE := (s8.trans s9).trans sO
              have sA := (s6.trans s7).trans sE
              have hL : LinesAt K CL H13 x (singleL n d) := ⟨dxx, t, ae, ao, st, hx, SqT.of ht, (hrE.same sE).at (SqL.of (sE _ _ hae)), (hrO.same sO).at (SqL.of (sO _ _ hao)), SqL.of (s13 _ _ hst)⟩
              refine ⟨_, rfl, x, b, singleL n d, singleB n d, vs, rfl, hL, by simp [singleL], by simp [singleL]; omega, by simp [singleB]; omega, SqT.of (sA _ _ hb), by rw [hvl]; simp [singleB], .tup (SqT.of (sA _ _ hb)) (dpAll_same sA hv5), fun H' p s' hF => ?_⟩
              exact k (by omega) H' p ((s05.trans sA).trans s') hF
end
end L2.EH
end S_L16
section S_L17
set_option maxRecDepth 100000
set_option maxHeartbeats 4000000
namespace L2.EH
open PySem PySem.Spec PyProof.Rows StX
open L2.Halves (has keys Clean sumOf sumOf_cons stepped Small WLines WOk WRow vat vat_zero vat_step Rule numberLines)
/-! ### what the values of constants, of n and of singles are -/
theorem sumOf1 (i : Nat) (vs : List Int) : sumOf [(i, 1)] vs = vs.getD i 0 := by simp [sumOf]
theorem sumOf0 (vs : List Int) : sumOf [] vs = 0 := by simp [sumOf]
theorem vat_pos (L : WLines) (n : Nat) (h : n ≠ 0) : vat L n = stepped (L.rows (n % 2)) (vat L (n / 2)) := by
  rw [vat, dif_neg h]
theorem value_const (c : Int) : ∀ n, sumOf (constM c) (vat (constL c) n) = c := by
  by_cases h : c = 0
  · intro n
    unfold constM; rw [if_pos h, sumOf0, h]
  · have hv : ∀ n, vat (constL c) n = [c] := fun n => by
      induction n using Nat.strongRecOn with
      | _ n ih =>
        unfold constL at ih ⊢
        rw [if_neg h] at ih ⊢
        by_cases h0 : n = 0
        · rw [h0, vat_zero]
        · rw [vat_pos _ _ h0, ih (n / 2) (by omega)]
          unfold WLines.rows
          split <;> simp [stepped, sumOf]
    intro n
    unfold constM; rw [if_neg h, hv, sumOf1]; rfl
theorem value_number : ∀ n, vat numberLines n = [(n : Int), 1] := fun n => by
  induction n using Nat.strongRecOn with
  | _ n ih =>
    by_cases h0 : n = 0
    · rw [h0, vat_zero]; rfl
    · rw [vat_pos _ _ h0, ih (n / 2) (by omega)]
      unfold WLines.rows
      split
      · have : 2 * ((n / 2 : Nat) : Int) = n := by omega
        simp [stepped, sumOf, numberLines]; omega
      · simp [stepped, sumOf, numberLines]; omega
def sVal (n m i : Nat) : Int := if m = n / 2 ^ i then 1 else 0
theorem sVal_step (n m i : Nat) : sVal n (m / 2) (i + 1) = if n / 2 ^ i % 2 = m % 2 then sVal n m i else sVal n (m / 2) (i + 1) := by
  unfold sVal
  rw [Nat.pow_succ, ← Nat.div_div_eq_div_mul]
  generalize n / 2 ^ i = q
  by_cases h : q % 2 = m % 2
  · rw [if_pos h]
    by_cases h2 : m = q
    · rw [if_pos h2, if_pos (by omega)]
    · rw [if_neg h2, if_neg (by omega)]
  · rw [if_neg h]
theorem sVal_other (n m i : Nat) (h : n / 2 ^ i % 2 ≠ m % 2) : sVal n m i = 0 := by
  unfold sVal
  rw [if_neg]
  intro z; exact h (by rw [z])
theorem sVals_getD (n m d j : Nat) (h : j ≤ d) : ((List.range (d + 1)).map (sVal n m)).getD j 0 = sVal n m j := by
  rw [List.getD, List.getElem?_map, List.getElem?_range (by omega)]; rfl
theorem vat_single (n : Nat) : ∀ m, vat (singleL n (bitsN n)) m = (List.range (bitsN n + 1)).map (sVal n m) := fun m => by
  have hd := bitsN_le n
  generalize bitsN n = d at *
  have hdd : n / 2 ^ d = 0 := Nat.div_eq_of_lt ((hd d).1 (Nat.le_refl d))
  have hlow : ∀ i, i < d → n / 2 ^ i ≠ 0 := fun i hi z => by
    have h1 : n < 2 ^ i := by
      rcases Nat.div_eq_zero_iff.1 z with h | h
      · exact absurd h (Nat.pos_iff_ne_zero.1 (Nat.two_pow_pos i))
      · exact h
    have := (hd i).2 h1
    omega
  induction m using Nat.strongRecOn with
  | _ m ih =>
    rw [List.range_succ, List.map_append]
    by_cases h0 : m = 0
    · subst h0
      rw [vat_zero]
      have e1 : (List.range d).map (sVal n 0) = List.replicate d 0 := by
        refine List.ext_getElem (by simp) fun i h1 h2 => ?_
        have hi : i < d := by simpa using h1
        rw [List.getElem_map, List.getElem_range, List.getElem_replicate]
        unfold sVal
        rw [if_neg (fun z => hlow i hi z.symm)]
      have e2 : [d].map (sVal n 0) = [1] := by
        unfold sVal
        simp [hdd]
      rw [e1, e2]; rfl
    · rw [vat_pos _ _ h0, ih (m / 2) (by omega)]
      unfold WLines.rows
      have hdm : sVal n m d = 0 := by
        unfold sVal; rw [hdd, if_neg h0]
      split
      · rename_i hm
        show stepped ((List.range d).map (sEv n) ++ [[(d, 1)]]) _ = _
        unfold stepped
        rw [List.map_append]
        refine congr (congrArg _ ?_) ?_
        · rw [List.map_map]
          refine List.map_congr_left fun i hi => ?_
          have hi : i < d := List.mem_range.1 hi
          show sumOf (sEv n i) _ = _
          unfold sEv
          by_cases hb : n / 2 ^ i % 2 = 0
          · rw [if_pos hb, sFol, sumOf1, sVals_getD _ _ _ _ (by omega), sVal_step, if_pos (by omega)]
          · rw [if_neg hb, sumOf0, sVal_other _ _ _ (by omega)]
        · show [sumOf [(d, 1)] _] = [sVal n m d]
          rw [sumOf1, sVals_getD _ _ _ _ (Nat.le_refl d), hdm]
          unfold sVal
          rw [hdd, if_neg (by omega)]
      · rename_i hm
        show stepped ((List.range d).map (sOd n) ++ [[]]) _ = _
        unfold stepped
        rw [List.map_append]
        refine congr (congrArg _ ?_) ?_
        · rw [List.map_map]
          refine List.map_congr_left fun i hi => ?_
          have hi : i < d := List.mem_range.1 hi
          show sumOf (sOd n i) _ = _
          unfold sOd
          by_cases hb : n / 2 ^ i % 2 = 1
          · rw [if_pos hb, sFol, sumOf1, sVals_getD _ _ _ _ (by omega), sVal_step, if_pos (by omega)]
          · rw [if_neg hb, sumOf0, sVal_other _ _ _ (by omega)]
        · show [sumOf [] _] = [sVal n m d]
          rw [sumOf0, hdm]
theorem value_single (n m : Nat) : sumOf [(0, 1)] (vat (singleL n (bitsN n)) m) = if m = n then 1 else 0 := by
  rw [vat_single, sumOf1, sVals_getD _ _ _ _ (Nat.zero_le _)]
  unfold sVal
  rw [Nat.pow_zero, Nat.div_one]
/-! ### bounds -/
theorem wb_const (c : Int) (hc : c.natAbs < 2 ^ 1000) : WB (constL c) 1 1000 1 := by
  unfold constL
  split
  · exact { ok := { we := rfl, wo := rfl, re := fun r hr => absurd hr (by simp), ro := fun r hr => absurd hr (by simp), fit := rfl }, len := by decide, rows := fun d r hr => by unfold WLines.rows at hr; split at hr <;> simp at hr, st := fun z hz => absurd hz (by simp), a0 := by decide, b0 := by decide, al := by decide, bl := by decide, cl := by decide }
  · have hr1 : WRow 1 [(0, 1)] := ⟨⟨by decide, by decide⟩, by decide⟩
    exact { ok := { we := rfl, wo := rfl, re := fun r hr => by simp at hr; subst hr; exact hr1, ro := fun r hr => by simp at hr; subst hr; exact hr1, fit := by simp [stepped, sumOf] }, len := by show 1 < 2 ^ 1; decide,
            rows := fun d r hr => by
              have : r = [(0, 1)] := by unfold WLines.rows at hr; split at hr <;> simpa using hr
              subst this; unfold Small; decide
            st := fun z hz => by simp at hz; subst hz; exact hc, a0 := by decide, b0 := by decide, al := by decide, bl := by decide, cl := by decide }
theorem rin_const (c : Int) : RowIn 1 (constL c).starts.length (constM c) := by
  unfold constL constM
  split
  · exact ⟨by decide, by decide, by decide, by unfold Small; decide⟩
  · exact ⟨by decide, by show ∀ i, i ∈ keys [(0, 1)] → i < 1; decide, by decide, by unfold Small; decide⟩
theorem wb_single (n : Nat) (h : n < 2 ^ 15) : WB (singleL n (bitsN n)) 1 1 5 := by
  have hd15 := (bitsN_le n 15).2 h
  have hv0 := vat_single n 0
  have hd := bitsN_le n
  generalize bitsN n = d at *
  have hlen : (singleL n d).starts.length = d + 1 := by simp [singleL]
  have hdd : n / 2 ^ d = 0 := Nat.div_eq_of_lt ((hd d).1 (Nat.le_refl d))
  have hone : ∀ j, j ≤ d → WRow (d + 1) [(j, 1)] ∧ Small 1 [(j, 1)] := fun j hj => ⟨⟨⟨by simp [keys], by simp⟩, fun i hi => by simp [keys] at hi; omega⟩, fun p hp => by simp at hp; subst hp; show (1 : Int).natAbs < 2 ^ 1; decide⟩
  have hnil : WRow (d + 1) [] ∧ Small 1 [] := ⟨⟨⟨by simp [keys], by simp⟩, fun i hi => by simp [keys] at hi⟩, fun p hp => by simp at hp⟩
  have hrow : ∀ r, r ∈ (singleL n d).evens ++ (singleL n d).odds → WRow (d + 1) r ∧ Small 1 r := fun r hr => by
    simp only [singleL, List.mem_append, List.mem_map, List.mem_range, List.mem_singleton] at hr
    rcases hr with (⟨i, hi, rfl⟩ | rfl) | (⟨i, hi, rfl⟩ | rfl)
    · unfold sEv; split
      · exact hone (i + 1) (by omega)
      · exact hnil
    · exact hone d (Nat.le_refl d)
    · unfold sOd; split
      · exact hone (i + 1) (by omega)
      · exact hnil
    · exact hnil
  have hst : (singleL n d).starts = (List.range (d + 1)).map (sVal n 0) := by rw [← hv0, vat_zero]
  exact {
    ok := { we := by simp [singleL], wo := by simp [singleL], re := fun r hr => by rw [hlen]; exact (hrow r (List.mem_append_left _ hr)).1, ro := fun r hr => by rw [hlen]; exact (hrow r (List.mem_append_right _ hr)).1,
            fit := by
              rw [hst]
              show stepped ((List.range d).map (sEv n) ++ [[(d, 1)]]) _ = _
              unfold stepped
              rw [List.map_append, List.range_succ, List.map_append]
              refine congr (congrArg _ ?_) ?_
              · rw [List.map_map]
                refine List.map_congr_left fun i hi => ?_
                have hi : i < d := List.mem_range.1 hi
                show sumOf (sEv n i) _ = _
                rw [← List.map_append, ← List.range_succ]
                unfold sEv
                by_cases hb : n / 2 ^ i % 2 = 0
                · rw [if_pos hb, sFol, sumOf1, sVals_getD _ _ _ _ (by omega)]
                  have := sVal_step n 0 i
                  rw [if_pos (by omega)] at this
                  exact this
                · rw [if_neg hb, sumOf0, sVal_other _ _ _ (by omega)]
              · show [sumOf [(d, 1)] _] = [sVal n 0 d]
                rw [← List.map_append, ← List.range_succ, sumOf1, sVals_getD _ _ _ _ (Nat.le_refl d)] }
    len := by rw [hlen]; exact Nat.lt_of_le_of_lt (Nat.succ_le_succ hd15) (by decide)
    rows := fun k r hr => by
      unfold WLines.rows at hr
      split at hr
      · exact (hrow r (List.mem_append_left _ hr)).2
      · exact (hrow r (List.mem_append_right _ hr)).2
    st := fun z hz => by
      simp only [singleL, List.mem_append, List.mem_replicate, List.mem_singleton] at hz
      rcases hz with ⟨_, rfl⟩ | rfl <;> decide
    a0 := by decide
    b0 := by decide
    al := by decide
    bl := by decide
    cl := by decide }
theorem rin_one (w : Nat) (hw : 0 < w) : RowIn 1 w [(0, 1)] := ⟨by decide, fun i hi => by simp [keys] at hi; omega, by decide, by unfold Small; decide⟩
end L2.EH
end S_L17
section S_L18
set_option maxRecDepth 100000
set_option maxHeartbeats 4000000
namespace L2.EH
open PySem PySem.Spec PyProof.Rows StX
abbrev PM : Int := 2147483029
def spCell (K : PySem.W.Frag) : Sp := fun vs H Q _ => ∃ (a : Addr) (ns : List Int) (k : Nat), vs = [.ref a, .int (k : Int)] ∧ SqL K H a (ns.map V.int) ∧ ns.length ≤ 63 ∧ k ≤ 100 ∧ ∀ (z : Int) H', Same H H' → Q (.int z) H'
def spPurse : Sp := fun vs H Q _ => ∃ (z : Int), vs = [.int z] ∧ ∀ (p : Addr) (m f : Int), H p = none → 0 ≤ m → m < PM → 0 ≤ f → Q (.ref p) (upd H p (.lst [.int m, .int f, .int 0]))
def spDraw : Sp := fun vs H Q _ => ∃ (p : Addr) (m f c n : Int), vs = [.ref p, .int n] ∧ H p = some (.lst [.int m, .int f, .int c]) ∧ 0 ≤ m ∧ m < PM ∧ 0 ≤ f ∧ 0 ≤ c ∧ c ≤ 1000 ∧ 0 < n ∧ n ≤ 10 ^ 20 ∧
  ∀ (m' f' d : Int), 0 ≤ m' → m' < PM → 0 ≤ f' → 0 ≤ d → d < n → Q (.int d) (upd H p (.lst [.int m', .int f', .int (c + 1)]))
/-! ### purses -/
def Kept (p : Addr) (H H' : Hp) : Prop := ∀ b o, b ≠ p → H b = some o → H' b = some o
theorem Kept.refl (p : Addr) (H : Hp) : Kept p H H := fun _ _ _ h => h
theorem Kept.trans {p : Addr} {H H' H'' : Hp} (a : Kept p H H') (b : Kept p H' H'') : Kept p H H'' := fun x o n h => b x o n (a x o n h)
theorem Same.kept {p : Addr} {H H' : Hp} (s : Same H H') : Kept p H H' := fun x o _ h => s x o h
theorem kept_upd (p : Addr) (H : Hp) (o : HO) : Kept p H (upd H p o) := fun x q n h => by rw [upd_ne n]; exact h
def Purse (H : Hp) (p : Addr) (lo hi : Nat) : Prop := ∃ m f c : Int, H p = some (.lst [.int m, .int f, .int c]) ∧ 0 ≤ m ∧ m < PM ∧ 0 ≤ f ∧ (lo : Int) ≤ c ∧ c ≤ (hi : Int)
theorem Purse.same {H H' : Hp} {p : Addr} {lo hi : Nat} (h : Purse H p lo hi) (s : Same H H') : Purse H' p lo hi := by
  obtain ⟨m, f, c, h1, h2⟩ := h
  exact ⟨m, f, c, s _ _ h1, h2⟩
theorem Purse.wide {H : Hp} {p : Addr} {lo hi lo' hi' : Nat} (h : Purse H p lo hi) (a : lo' ≤ lo) (b : hi ≤ hi') : Purse H p lo' hi' := by
  obtain ⟨m, f, c, h1, h2, h3, h4, h5, h6⟩ := h
  exact ⟨m, f, c, h1, h2, h3, h4, by omega, by omega⟩
/-- another list than the purse -/
theorem Purse.ne {H : Hp} {p t : Addr} {lo hi : Nat} {xs : List V} (h : Purse H p lo hi) (ht : H t = some (.lst xs)) (hl : xs.length ≠ 3) : t ≠ p := by
  rintro rfl
  obtain ⟨m, f, c, h1, _⟩ := h
  rw [h1] at ht
  injection ht with ht
  injection ht with ht
  rw [← ht] at hl
  exact hl rfl
/-- _law_draw, with a purse that is kept -/
def spDrawP : Sp := fun vs H Q _ => ∃ (p : Addr) (lo hi : Nat) (n : Int), vs = [.ref p, .int n] ∧ Purse H p lo hi ∧ hi ≤ 900 ∧ 0 < n ∧ n ≤ 10 ^ 20 ∧ ∀ (d : Int) H', 0 ≤ d → d < n → Kept p H H' → Purse H' p (lo + 1) (hi + 1) → Q (.int d) H'
theorem draw_purse {vs : List V} {H : Hp} {Q : VK} {E : XK} (h : spDrawP vs H Q E) : spDraw vs H Q E := by
  obtain ⟨p, lo, hi, n, rfl, ⟨m, f, c, h1, h2, h3, h4, h5, h6⟩, h7, h8, h9, k⟩ := h
  exact ⟨p, m, f, c, n, rfl, h1, h2, h3, h4, by omega, by omega, h8, h9, fun m' f' d a1 a2 a3 a4 a5 => k d _ a4 a5 (kept_upd _ _ _) ⟨m', f', c + 1, upd_same, a1, a2, a3, by omega, by omega⟩⟩
structure Nb (mg : Str → Option Value) : Prop where
  len : mg "len" = none
  int : mg "int" = none
  abs : mg "abs" = none
  str : mg "str" = none
section
variable {P : Program} {w : World} {K : PySem.W.Frag} {mg : Str → Option Value} {base : Heap}
theorem scCell : FnScope ["_law_cells", "_law_k", "_law_seed", "_law_cell_here"] ["_law_cells", "_law_k"] (defScope sCell) := ⟨rfl, rfl, rfl, by decide +kernel, rfl, by decide +kernel, by decide +kernel⟩
theorem scPurse : FnScope ["_law_cell_here", "_law_figures"] ["_law_cell_here"] (defScope sPurse) := ⟨rfl, rfl, rfl, by decide +kernel, rfl, by decide +kernel, by decide +kernel⟩
theorem scDraw : FnScope ["_law_purse_here", "_law_many", "_law_seed", "_law_digit"] ["_law_purse_here", "_law_many"] (defScope sDraw) := ⟨rfl, rfl, rfl, by decide +kernel, rfl, by decide +kernel, by decide +kernel⟩
theorem modPM (x : Int) : 0 ≤ x % 2147483029 ∧ x % 2147483029 < PM := ⟨Int.emod_nonneg _ (by decide), Int.emod_lt_of_pos _ (by decide)⟩
theorem ok_purse {f : Addr} {fd : FuncData} (F : Fun K "_law_purse" "_law_purse" sPurse f fd) (B : Nb mg) : FnOk P w K mg base CX0 1 f fd ["_law_cell_here"] spPurse := by
  refine F.ok scPurse (fun vs H Q E h => ?_) (fun cdv A outer s H vs Q E hr h => ?_)
  · obtain ⟨z, rfl, _⟩ := h
    rfl
  · obtain ⟨z, rfl, k⟩ := h
    refine ⟨_, pss_cons (ps_set (i := 1) scPurse.nd rfl (Or.inl rfl) (pe_ifExp (PW.pt (pw_or (pt_cmpR op_lt (pv 0) pe_int (nomark _)) (pw_or1 (pt_cmpR op_ge (pv 0) (pe_op op_pow pe_int pe_int) (nomark _))))) (pe_callB call_abs (by rfl) B.abs (by decide +kernel) (pa_cons (pv 0) pa_nil)) pe_int))
      (pss_one (ps_ret (pe_lst (pa_cons (pe_op op_mod (pe_callTy call_int1 (by rfl) B.int (by decide +kernel) (pa_cons (pv 0) pa_nil)) pe_int) (pa_cons (pv 1) (pa_cons pe_int pa_nil)))))), ?_⟩
    have last : ∀ (f : Int), 0 ≤ f → tRet (tLst (tCons (tOp (rI (fun _ j => 0 < j) fun i j => V.int (i % j)) (tCB (fun xs H Q => (∃ i, xs = [V.int i] ∧ Q (V.int i) H) ∨ ∃ k, xs = [V.bl k] ∧ Q (V.int (if k = true then 1 else 0)) H) (tCons (tVar 0) tNil)) (tC (V.int 2147483029))) (tCons (tVar 1) (tCons (tC (V.int 0)) tNil)))) { nx := fun _ H' => Q .non H', rt := Q } [some (.int z), some (.int f)] H := fun f hf => by
      refine ⟨_, rfl, .inl ⟨_, rfl, _, _, rfl, rfl, (by show (0 : Int) < 2147483029; decide), _, rfl, by show 3 ≤ sizeLine; decide, fun p np => ?_⟩⟩
      exact k p _ f np (modPM z).1 (modPM z).2 hf
    refine ⟨_, rfl, _, _, rfl, rfl, _, rfl, ite2 (fun h => ?_) fun h => ?_⟩
    · refine iteT ⟨_, rfl, _, rfl, ?_⟩
      exact last _ (by split <;> omega)
    · refine ⟨_, rfl, _, _, rfl, rfl, ⟨by decide, by decide, by decide⟩, _, _, rfl, rfl, _, rfl, ite2 (fun h' => ?_) fun h' => ?_⟩
      · exact ⟨_, rfl, _, rfl, last _ (by split <;> omega)⟩
      · exact last 0 (by decide)
theorem ok_draw {f : Addr} {fd : FuncData} (F : Fun K "_law_draw" "_law_draw" sDraw f fd) (B : Nb mg) : FnOk P w K mg base CX0 1 f fd ["_law_purse_here", "_law_many"] spDrawP := by
  refine F.ok scDraw (fun vs H Q E h => ?_) (fun cdv A outer s H vs Q E hr h => ?_)
  all_goals replace h := draw_purse h
  · obtain ⟨p, m, f, c, n, rfl, _⟩ := h
    rfl
  · obtain ⟨p, m, f, c, n, rfl, hp, hm, hm2, hf, hc, hc2, hn, hn2, k⟩ := h
    have nd := scDraw.nd
    refine ⟨_, pss_cons (ps_asg (pe_op op_add (pe_ix ix_list (pv 0) pe_int (fun _ _ => rfl)) pe_int) (pg_sub (pv 0) pe_int set_list))
      (pss_cons (ps_set (i := 2) nd rfl (Or.inl rfl) (pe_callTy call_int1 (by rfl) B.int (by decide +kernel) (pa_cons (pe_ix ix_list (pv 0) pe_int (fun _ _ => rfl)) pa_nil)))
      (pss_cons (ps_asg (pe_op op_mod (pe_callTy call_int1 (by rfl) B.int (by decide +kernel) (pa_cons (pe_op op_add (pe_op op_add (pe_op op_mul (pv 2) (pe_op op_add (pe_op op_mod (pe_callTy call_int1 (by rfl) B.int (by decide +kernel) (pa_cons (pv 2) pa_nil)) pe_int) pe_int)) (pe_op op_mul pe_int (pe_ix ix_list (pv 0) pe_int (fun _ _ => rfl)))) pe_int) pa_nil)) pe_int) (pg_sub (pv 0) pe_int set_list))
      (pss_cons (ps_if (pt_cmpR op_gt (pe_ix ix_list (pv 0) pe_int (fun _ _ => rfl)) pe_int (nomark _))
          (pss_cons (ps_set (i := 3) nd rfl (Or.inl rfl) (pe_op op_mod (pe_callTy call_int1 (by rfl) B.int (by decide +kernel) (pa_cons (pe_ix ix_list (pv 0) pe_int (fun _ _ => rfl)) pa_nil)) (pv 1)))
          (pss_cons (ps_asg (pe_op op_fdivW (pe_ix ix_list (pv 0) pe_int (fun _ _ => rfl)) (pv 1)) (pg_sub (pv 0) pe_int set_list))
          (pss_one (ps_ret (pv 3))))) pss_nil)
      (pss_one (ps_ret (pe_op op_mod (pe_callTy call_int1 (by rfl) B.int (by decide +kernel) (pa_cons (pe_op op_fdiv (pe_ix ix_list (pv 0) pe_int (fun _ _ => rfl)) pe_int) pa_nil)) (pv 1))))))), ?_⟩
    -- purse[2] = purse[2] + 1
    refine ⟨_, rfl, p, _, _, _, rfl, rfl, SqL.of hp, rfl, _, _, rfl, rfl, _, rfl, p, _, _, 2, rfl, rfl, hp, rfl, ?_⟩
    have h1 : (upd H p (.lst [.int m, .int f, .int (c + 1)])) p = some (.lst [.int m, .int f, .int (c + 1)]) := upd_same
    -- seed
    refine ⟨_, rfl, p, _, _, _, rfl, rfl, SqL.of h1, rfl, .inl ⟨_, rfl, ?_⟩⟩
    have hx := modPM (m * (m % 30011 + 20011) + 65537 * (c + 1) + 7)
    have hb : (-(2 ^ 64 : Int)) < m ∧ m < 2 ^ 64 := by constructor <;> (have : PM = 2147483029 := rfl; omega)
    refine ⟨_, rfl, _, rfl, .inl ⟨_, rfl, _, _, rfl, rfl, (by show (0 : Int) < 30011; decide), _, _, rfl, rfl, _, _, rfl, rfl, .inl hb, _, rfl, p, _, _, _, rfl, rfl, SqL.of h1, rfl, _, _, rfl, rfl, .inl ⟨by decide, by decide⟩, _, _, rfl, rfl, _, _, rfl, rfl, .inl ⟨_, rfl, _, _, rfl, rfl, (by show (0 : Int) < 2147483029; decide), _, rfl, p, _, _, 0, rfl, rfl, h1, rfl, ?_⟩⟩⟩
    have h2 : (upd (upd H p (.lst [.int m, .int f, .int (c + 1)])) p (.lst [.int ((m * (m % 30011 + 20011) + 65537 * (c + 1) + 7) % 2147483029), .int f, .int (c + 1)])) p = some (.lst [.int ((m * (m % 30011 + 20011) + 65537 * (c + 1) + 7) % 2147483029), .int f, .int (c + 1)]) := upd_same
    have hnb : n.natAbs < 2 ^ 67 := by
      have z : (10 : Int) ^ 20 < 2 ^ 67 := by decide
      omega
    refine ⟨_, rfl, p, _, _, _, rfl, rfl, SqL.of h2, rfl, _, _, rfl, rfl, _, rfl, ite2 (fun hg => ?_) fun hg => ?_⟩
    · refine ⟨_, rfl, p, _, _, _, rfl, rfl, SqL.of h2, rfl, .inl ⟨_, rfl, _, rfl, _, _, rfl, rfl, hn, ?_⟩⟩
      refine ⟨_, rfl, p, _, _, _, rfl, rfl, SqL.of h2, rfl, _, rfl, _, _, rfl, rfl, wide_div hn hnb (by decide) (by decide), _, rfl, p, _, _, 1, rfl, rfl, h2, rfl, ?_⟩
      refine ⟨_, rfl, ?_⟩
      have r := k _ (f / n) (f % n) hx.1 hx.2 (Int.ediv_nonneg hf (by omega)) (Int.emod_nonneg _ (by omega)) (Int.emod_lt_of_pos _ hn)
      rw [← upd_upd (o := .lst [.int ((m * (m % 30011 + 20011) + 65537 * (c + 1) + 7) % 2147483029), .int f, .int (c + 1)]), ← upd_upd (H := H) (o := .lst [.int m, .int f, .int (c + 1)])] at r
      exact r
    · refine ⟨_, rfl, p, _, _, _, rfl, rfl, SqL.of h2, rfl, _, _, rfl, rfl, ⟨by decide, by decide⟩, .inl ⟨_, rfl, _, rfl, _, _, rfl, rfl, hn, ?_⟩⟩
      have r := k _ f ((m * (m % 30011 + 20011) + 65537 * (c + 1) + 7) % 2147483029 / 32 % n) hx.1 hx.2 hf (Int.emod_nonneg _ (by omega)) (Int.emod_lt_of_pos _ hn)
      rw [← upd_upd (H := H) (o := .lst [.int m, .int f, .int (c + 1)])] at r
      exact r
theorem cut_ints (ns : List Int) (lo hi : Option Int) : ∃ ms : List Int, cutV (ns.map V.int) lo hi = ms.map V.int := by
  unfold cutV
  exact ⟨(ns.drop (HT.sIx (ns.map V.int).length 0 lo)).take (HT.sIx (ns.map V.int).length (ns.map V.int).length hi - HT.sIx (ns.map V.int).length 0 lo), by rw [List.map_take, List.map_drop]⟩
theorem ok_cell {f : Addr} {fd : FuncData} (F : Fun K "_law_cell" "_law_cell" sCell f fd) (B : Nb mg) : FnOk P w K mg base CX0 1 f fd ["_law_cells", "_law_k"] (spCell K) := by
  refine F.ok scCell (fun vs H Q E h => ?_) (fun cdv A outer s H vs Q E hr h => ?_)
  · obtain ⟨a, ns, k, rfl, _⟩ := h
    rfl
  · obtain ⟨a, ns, k, rfl, ha, hl, hk, q⟩ := h
    have nd := scCell.nd
    refine ⟨_, pss_cons (ps_if (pt_cmpR op_lt (pv 1) (pe_callB call_len (by rfl) B.len boot_len (pa_cons (pv 0) pa_nil)) (nomark _)) (pss_one (ps_ret (pe_callTy call_int1 (by rfl) B.int (by decide +kernel) (pa_cons (pe_ix ix_list (pv 0) (pv 1) (fun _ _ => rfl)) pa_nil)))) pss_nil)
      (pss_cons (ps_set (i := 2) nd rfl (Or.inl rfl) (pe_op op_mod (pe_callTy call_int1 (by rfl) B.int (by decide +kernel) (pa_cons (pe_op op_mul pe_int (pe_op op_add (pe_op op_add (pe_op op_mul (pv 1) (pv 1)) (pe_op op_mul pe_int (pv 1))) pe_int)) pa_nil)) pe_int))
      (pss_cons (ps_for PassesOwn.never rfl (pi_list (pe_slice sl_list (pv 0) po_none (po_some pe_int))) (pg_name (i := 3) nd rfl (Or.inl rfl))
        (pss_one (ps_set (i := 2) nd rfl (Or.inl rfl) (pe_op op_mod (pe_callTy call_int1 (by rfl) B.int (by decide +kernel) (pa_cons (pe_op op_add (pe_op op_mul (pv 2) pe_int) (pe_callTy call_int1 (by rfl) B.int (by decide +kernel) (pa_cons (pv 3) pa_nil))) pa_nil)) pe_int))))
      (pss_one (ps_ret (pv 2))))), ?_⟩
    have hkb : (-(2 ^ 64 : Int)) < (k : Int) ∧ (k : Int) < 2 ^ 64 := by constructor <;> omega
    refine ⟨_, rfl, _, rfl, _, _, rfl, .inl ⟨_, ha, rfl⟩, _, _, rfl, rfl, _, rfl, ite2 (fun h => ?_) fun h => ?_⟩
    · have hlt : k < ns.length := by
        have z := of_decide_eq_true h
        rw [List.length_map] at z
        omega
      have e1 : (ns.map V.int)[k]? = some (V.int ns[k]) := by rw [List.getElem?_map, List.getElem?_eq_getElem hlt]; rfl
      exact ⟨_, rfl, _, rfl, a, _, _, _, rfl, rfl, ha, atI_nat e1, .inl ⟨_, rfl, q _ H (Same.refl H)⟩⟩
    · refine ⟨_, rfl, _, rfl, _, _, rfl, rfl, .inl hkb, _, rfl, _, _, rfl, rfl, .inl ⟨by decide, by decide⟩, _, _, rfl, rfl, _, _, rfl, rfl, _, _, rfl, rfl, .inl ⟨by decide, by decide⟩, .inl ⟨_, rfl, _, _, rfl, rfl, (by show (0 : Int) < 2147483029; decide), ?_⟩⟩
      refine ⟨_, rfl, _, rfl, a, _, rfl, ha, fun p np => ?_⟩
      obtain ⟨ms, hms⟩ := cut_ints ns none (some 3)
      refine ⟨p, rfl, ⟨_, SqL.of upd_same⟩, for_list (K := K) (a := p) (xs := cutV (ns.map V.int) none (some 3)) (fun i σ H' => H' = upd H p (.lst (cutV (ns.map V.int) none (some 3))) ∧ ∃ (z : Int) (x : Option V), 0 ≤ z ∧ z < PM ∧ σ = [some (.ref a), some (.int (k : Int)), some (.int z), x]) ?_ ?_ ?_ ?_⟩
      · exact ⟨rfl, _, none, (modPM _).1, (modPM _).2, rfl⟩
      · rintro i σ H' _ ⟨rfl, _⟩
        exact SqL.of upd_same
      · rintro i x σ H' hx ⟨rfl, z, y, hz, hz2, rfl⟩
        rw [hms, List.getElem?_map] at hx
        cases e : ms[i]? with
        | none => rw [e] at hx; cases hx
        | some n =>
          rw [e] at hx
          cases hx
          have hb : (-(2 ^ 64 : Int)) < z ∧ z < 2 ^ 64 := by constructor <;> (have : PM = 2147483029 := rfl; omega)
          exact ⟨_, rfl, _, _, rfl, rfl, .inl hb, _, rfl, .inl ⟨_, rfl, _, _, rfl, rfl, .inl ⟨_, rfl, _, _, rfl, rfl, (by show (0 : Int) < 2147483029; decide), rfl, _, _, (modPM _).1, (modPM _).2, rfl⟩⟩⟩
      · rintro σ H' ⟨rfl, z, y, hz, hz2, rfl⟩
        exact ⟨_, rfl, q z _ (fun b o e => by rw [upd_ne (ne_of_none e np)]; exact e)⟩
end
end L2.EH
end S_L18
section S_L19
set_option exponentiation.threshold 2000
set_option maxRecDepth 100000
set_option maxHeartbeats 4000000
namespace L2.EH
open PySem PySem.Spec PyProof.Rows StX
def spOf (K : PySem.W.Frag) : Sp := fun vs H Q _ => ∃ (p t : Addr) (lo hi : Nat) (xs : List V), vs = [.ref p, .ref t] ∧ Purse H p lo hi ∧ hi ≤ 900 ∧ H t = some (.lst xs) ∧ t ≠ p ∧ 0 < xs.length ∧ xs.length ≤ 100 ∧
  ∀ (d : Nat) (hd : d < xs.length) H', Kept p H H' → Purse H' p (lo + 1) (hi + 1) → Q xs[d] H'
def spLFar : Sp := fun vs H Q _ => ∃ (p : Addr) (lo hi : Nat), vs = [.ref p] ∧ Purse H p lo hi ∧ hi ≤ 800 ∧ ∀ (z : Nat) H', z < 10 ^ 294 → Kept p H H' → Purse H' p (lo + 1) (hi + 43) → Q (.int (z : Int)) H'
def spIs : Sp := fun vs H Q _ => ∃ z w : Int, vs = [.int z, .int w] ∧ Q (.bl (decide (z = w))) H
theorem scOf : FnScope ["_law_purse_here", "_law_things"] ["_law_purse_here", "_law_things"] (defScope sOf) := ⟨rfl, rfl, rfl, by decide +kernel, rfl, by decide +kernel, by decide +kernel⟩
theorem scLFar : FnScope ["_law_purse_here", "_law_found", "_law_turn"] ["_law_purse_here"] (defScope sFar) := ⟨rfl, rfl, rfl, by decide +kernel, rfl, by decide +kernel, by decide +kernel⟩
theorem scIs : FnScope ["_law_thing", "_law_due"] ["_law_thing", "_law_due"] (defScope sIs) := ⟨rfl, rfl, rfl, by decide +kernel, rfl, by decide +kernel, by decide +kernel⟩
section
variable {P : Program} {w : World} {K : PySem.W.Frag} {mg : Str → Option Value} {base : Heap}
theorem ok_is {f : Addr} {fd : FuncData} (F : Fun K "_law_is" "_law_is" sIs f fd) (B : NmC mg) : FnOk P w K mg base CX0 1 f fd ["_law_thing", "_law_due"] spIs := by
  refine F.ok scIs (fun vs H Q E h => ?_) (fun cdv A outer s H vs Q E hr h => ?_)
  · obtain ⟨z, w, rfl, _⟩ := h
    rfl
  · obtain ⟨z, w, rfl, k⟩ := h
    refine ⟨_, pss_one (ps_ret (pe_and (pe_callB call_isi (by rfl) B.isinst (by decide +kernel) (pa_cons (pv 0) (pa_cons (pe_bltn (v := .ty "int") (by rfl) B.int (by decide +kernel) rfl) pa_nil)))
      (pe_and (pe_not (pe_callB call_isi (by rfl) B.isinst (by decide +kernel) (pa_cons (pv 0) (pa_cons (pe_bltn (v := .ty "bool") (by rfl) B.bool (by decide +kernel) rfl) pa_nil)))) (pe_one (pe_cmpR op_eq (pv 0) (pv 1) (nomark _)))))), ?_⟩
    refine ⟨_, rfl, _, _, .type "int", .type "int", true, rfl, .ty _, .base (.int _), kit_ty (by decide +kernel), _, rfl, ?_⟩
    refine iteT ⟨_, rfl, _, _, .type "int", .type "bool", false, rfl, .ty _, .base (.int _), kit_ty (by decide +kernel), _, rfl, _, rfl, iteT ?_⟩
    refine ⟨_, rfl, _, rfl, rfl, ?_⟩
    have e : decide (V.int z = V.int w) = decide (z = w) := by
      by_cases h : z = w
      · subst h; simp
      · rw [decide_eq_false h, decide_eq_false (fun q => h (by injection q))]
    rw [e]; exact k
theorem ok_of {f fD : Addr} {fd fdD : FuncData} (F : Fun K "_law_of" "_law_of" sOf f fd) (B : Nb mg) (FD : Fn' P w K mg base 1 "_law_draw" fD fdD ["_law_purse_here", "_law_many"] spDrawP) : FnOk P w K mg base CX0 2 f fd ["_law_purse_here", "_law_things"] (spOf K) := by
  refine F.ok scOf (fun vs H Q E h => ?_) (fun cdv A outer s H vs Q E hr h => ?_)
  · obtain ⟨p, t, lo, hi, xs, rfl, _⟩ := h
    rfl
  · obtain ⟨p, t, lo, hi, xs, rfl, hp, hhi, ht, htp, h0, h1, k⟩ := h
    refine ⟨_, pss_one (ps_ret (pe_ix ix_list (pv 1) (pe_call FD.ok hr (by rfl) FD.m FD.k FD.b .nil pass0 (pa_cons (pv 0) (pa_cons (pe_callB call_len_seq (by rfl) B.len boot_len (pa_cons (pv 1) pa_nil)) pa_nil))) (fun _ _ => rfl))), ?_⟩
    refine ⟨_, rfl, _, rfl, _, rfl, t, xs, rfl, .inl (SqL.of ht), ?_⟩
    refine ⟨p, lo, hi, (xs.length : Int), rfl, hp, hhi, by omega, by omega, fun d H' d0 d1 hk hP => ?_⟩
    obtain ⟨j, rfl⟩ := Int.eq_ofNat_of_zero_le d0
    have hd : j < xs.length := by omega
    exact ⟨t, xs, (j : Int), xs[j], rfl, rfl, SqL.of (hk _ _ htp ht), atI_nat (List.getElem?_eq_getElem hd), k _ hd H' hk hP⟩
theorem turns (d : Nat) (hd : d < [V.int 1, V.int 1, V.int 2, V.int 3, V.int 5, V.int 14, V.int 42].length) : ∃ T : Nat, [V.int 1, V.int 1, V.int 2, V.int 3, V.int 5, V.int 14, V.int 42][d] = V.int (T : Int) ∧ T ≤ 42 := by
  have hd : d < 7 := hd
  rcases d with _ | _ | _ | _ | _ | _ | _ | d
  · exact ⟨1, rfl, by decide⟩
  · exact ⟨1, rfl, by decide⟩
  · exact ⟨2, rfl, by decide⟩
  · exact ⟨3, rfl, by decide⟩
  · exact ⟨5, rfl, by decide⟩
  · exact ⟨14, rfl, by decide⟩
  · exact ⟨42, rfl, by decide⟩
  · omega
theorem bitsL_lt {z k : Nat} (h : z < 2 ^ k) : Builtin.Int.intBits (z : Int) ≤ k := (bitsN_le z k).2 h
theorem ten_294 : (10 : Nat) ^ 294 < 2 ^ 1000 := by decide +kernel
theorem ok_lFar {f fD fO : Addr} {fd fdD fdO : FuncData} (F : Fun K "_law_far" "_law_far" sFar f fd) (B : Nm7 mg) (FD : Fn' P w K mg base 1 "_law_draw" fD fdD ["_law_purse_here", "_law_many"] spDrawP)
    (FO : Fn' P w K mg base 2 "_law_of" fO fdO ["_law_purse_here", "_law_things"] (spOf K)) : FnOk P w K mg base CX0 3 f fd ["_law_purse_here"] spLFar := by
  refine F.ok scLFar (fun vs H Q E h => ?_) (fun cdv A outer s H vs Q E hr h => ?_)
  · obtain ⟨p, lo, hi, rfl, _⟩ := h
    rfl
  · obtain ⟨p, lo, hi, rfl, hp, hhi, k⟩ := h
    have nd := scLFar.nd
    refine ⟨_, pss_cons (ps_set (i := 1) nd rfl (Or.inl rfl) pe_int)
      (pss_cons (ps_for PassesOwn.never rfl (pi_range1 (by rfl) B.range (pa_cons (pe_call FO.ok (by exact hr.mono (by decide)) (by rfl) FO.m FO.k FO.b .nil pass0 (pa_cons (pv 0) (pa_cons (pe_lst (pa_cons pe_int (pa_cons pe_int (pa_cons pe_int (pa_cons pe_int (pa_cons pe_int (pa_cons pe_int (pa_cons pe_int pa_nil)))))))) pa_nil))) pa_nil)) (pg_name (i := 2) nd rfl (Or.inl rfl))
        (pss_one (ps_set (i := 1) nd rfl (Or.inl rfl) (pe_op op_add (pe_op op_mulX (pv 1) (pe_op op_pow pe_int pe_int)) (pe_call FD.ok (by exact hr.mono (by decide)) (by rfl) FD.m FD.k FD.b .nil pass0 (pa_cons (pv 0) (pa_cons (pe_op op_pow pe_int pe_int) pa_nil)))))))
      (pss_one (ps_ret (pv 1)))), ?_⟩
    refine ⟨_, rfl, by show 7 ≤ sizeLine; decide, fun t nt => ?_⟩
    have s1 := same_new (o := .lst [.int 1, .int 1, .int 2, .int 3, .int 5, .int 14, .int 42]) nt
    have ht : (upd H t (.lst [.int 1, .int 1, .int 2, .int 3, .int 5, .int 14, .int 42])) t = some (.lst [.int 1, .int 1, .int 2, .int 3, .int 5, .int 14, .int 42]) := upd_same
    have hp1 := hp.same s1
    generalize (upd H t (.lst [.int 1, .int 1, .int 2, .int 3, .int 5, .int 14, .int 42])) = H1 at *
    refine ⟨p, t, lo, hi, _, rfl, hp1, by omega, ht, hp1.ne ht (by decide), by decide, by decide, fun d hd H2 hk2 hp2 => ?_⟩
    obtain ⟨T, eT, hT⟩ := turns d hd
    rw [eT]
    refine ⟨(T : Int), rfl, by omega, by omega, ?_⟩
    have en : ((T : Int)).toNat = T := by omega
    refine for_range (n := ((T : Int)).toNat) (fun i σ H' => ∃ (z : Nat) (x : Option V), σ = [some (.ref p), some (.int (z : Int)), x] ∧ z < 10 ^ (7 * i) ∧ Kept p H H' ∧ Purse H' p (lo + 1) (hi + 1 + i)) ⟨0, none, rfl, by decide, (Same.kept s1).trans hk2, hp2⟩ ?_ ?_
    · rintro i σ H' hit ⟨z, x, rfl, hz, hk, hP⟩
      have hi' : i < T := by omega
      have h294 : z < 10 ^ 294 := Nat.lt_of_lt_of_le hz (Nat.pow_le_pow_right (by decide) (by omega))
      have hbz := bitsL_lt (Nat.lt_trans h294 ten_294)
      refine ⟨_, rfl, _, _, rfl, rfl, ⟨by decide, by decide, by decide⟩, _, _, rfl, rfl, ?_, _, rfl, _, _, rfl, rfl, ⟨by decide, by decide, by decide⟩, ?_⟩
      · have e7 : (Builtin.Int.intBits ((10 : Int) ^ (7 : Int).toNat) : Int) ≤ 24 := by decide +kernel
        show ((Builtin.Int.intBits (z : Int) : Nat) : Int) + ((Builtin.Int.intBits ((10 : Int) ^ (7 : Int).toNat) : Nat) : Int) ≤ 134217728
        omega
      · refine ⟨p, lo + 1, hi + 1 + i, _, rfl, hP, by omega, by decide, by decide, fun dd H3 d0 d1 hk3 hp3 => ?_⟩
        obtain ⟨j, rfl⟩ := Int.eq_ofNat_of_zero_le d0
        refine ⟨_, _, rfl, rfl, ?_⟩
        have hj : j < 10 ^ 7 := by
          have : ((j : Nat) : Int) < ((10 ^ 7 : Nat) : Int) := d1
          exact Int.ofNat_lt.1 this
        refine ⟨z * 10 ^ 7 + j, some (.int (0 + (i : Int))), ?_, ?_, hk.trans hk3, hp3.wide (by omega) (by omega)⟩
        · have : ((z * 10 ^ 7 + j : Nat) : Int) = (z : Int) * (10 : Int) ^ (7 : Int).toNat + (j : Int) := by
            rw [Int.natCast_add, Int.natCast_mul]; rfl
          rw [this]; rfl
        · rw [Nat.mul_add, Nat.mul_one, Nat.pow_add]
          have : (z + 1) * 10 ^ 7 ≤ 10 ^ (7 * i) * 10 ^ 7 := Nat.mul_le_mul_right _ hz
          rw [Nat.add_mul, Nat.one_mul] at this
          omega
    · rintro σ H' ⟨z, x, rfl, hz, hk, hP⟩
      rw [en] at hz hP
      exact ⟨_, rfl, k z H' (Nat.lt_of_lt_of_le hz (Nat.pow_le_pow_right (by decide) (by omega))) hk (hP.wide (by omega) (by omega))⟩
end
end L2.EH
end S_L19
section S_L20
set_option exponentiation.threshold 2000
set_option maxRecDepth 100000
set_option maxHeartbeats 4000000
namespace L2.EH
open PySem PySem.Spec PyProof.Rows StX
open L2.Halves (Rule)
def headsV (n i : Nat) : List V := (List.range (i + 1)).map fun j => V.int ((n / 2 ^ j : Nat) : Int)
theorem headsV_succ (n i : Nat) : headsV n (i + 1) = headsV n i ++ [V.int ((n / 2 ^ (i + 1) : Nat) : Int)] := by
  unfold headsV
  rw [List.range_succ, List.map_append]; rfl
theorem headsV_last (n i : Nat) : ∃ xs, headsV n i = xs ++ [V.int ((n / 2 ^ i : Nat) : Int)] := ⟨(List.range i).map fun j => V.int ((n / 2 ^ j : Nat) : Int), by unfold headsV; rw [List.range_succ, List.map_append]; rfl⟩
theorem headsV_len (n i : Nat) : (headsV n i).length = i + 1 := by simp [headsV]
def spHeads : Sp := fun vs H Q _ => ∃ n : Nat, vs = [.int (n : Int)] ∧ n < 2 ^ 15 ∧ ∀ H' t, Same H H' → H t = none → H' t = some (.lst (headsV n (bitsN n))) → Q (.ref t) H'
theorem scHeads : FnScope ["_law_spot", "_law_found"] ["_law_spot"] (defScope sHeads) := ⟨rfl, rfl, rfl, by decide +kernel, rfl, by decide +kernel, by decide +kernel⟩
def wOne (z : Int) (many : Nat) : List (Int × Int) := (List.range many).map fun i : Nat => (if (i : Int) = z then 1 else 0, 1)
def spOneAt (K : PySem.W.Frag) : Sp := fun vs H Q _ => ∃ (z : Int) (many : Nat), vs = [.int z, .int (many : Int)] ∧ many ≤ 100 ∧ ∀ H' p, Same H H' → H p = none → Dp K H' (.ref p) (.tuple ((wOne z many).map pairD)) → Q (.ref p) H'
theorem scOneAt : FnScope ["_law_at", "_law_many", "_law_place"] ["_law_at", "_law_many"] (defScope sOneAt) := ⟨rfl, rfl, rfl, by decide +kernel, rfl, by decide +kernel, by decide +kernel⟩
section
variable {P : Program} {w : World} {K : PySem.W.Frag} {mg : Str → Option Value} {base : Heap}
theorem ok_heads {f : Addr} {fd : FuncData} (F : Fun K "_law_heads" "_law_heads" sHeads f fd) : FnOk P w K mg base CX0 1 f fd ["_law_spot"] spHeads := by
  refine F.ok scHeads (fun vs H Q E h => ?_) (fun cdv A outer s H vs Q E hr h => ?_)
  · obtain ⟨n, rfl, _⟩ := h
    rfl
  · obtain ⟨n, rfl, hn, k⟩ := h
    have nd := scHeads.nd
    refine ⟨_, pss_cons (ps_set (i := 1) nd rfl (Or.inl rfl) (pe_lst (pa_cons (pv 0) pa_nil)))
      (pss_cons (ps_while PassesOwn.never (pt_cmpR op_gt (pe_ix ix_list (pv 1) (pe_un un_neg pe_int) (fun _ _ => rfl)) pe_int (nomark _))
        (pss_one (ps_expr (pe_bm PySem.F.plainAttrs_list PySem.F.slot_list_append PySem.F.type_list_append mt_append (pv 1) (pa_cons (pe_op op_fdiv (pe_ix ix_list (pv 1) (pe_un un_neg pe_int) (fun _ _ => rfl)) pe_int) pa_nil)))))
      (pss_one (ps_ret (pv 1)))), ?_⟩
    refine ⟨_, rfl, by show 1 ≤ sizeLine; decide, fun t nt => ?_⟩
    have hd := bitsN_le n
    generalize bitsN n = d at *
    have hd15 := (hd 15).2 hn
    have hdd : n / 2 ^ d = 0 := Nat.div_eq_of_lt ((hd d).1 (Nat.le_refl d))
    refine while_by (fun σ H' => ∃ i, i ≤ d ∧ σ = [some (.int (n : Int)), some (.ref t)] ∧ Same H H' ∧ H' t = some (.lst (headsV n i)))
      (fun σ H' => match H' t with
        | some (.lst xs) => d + 1 - xs.length
        | _ => 0) ⟨0, Nat.zero_le _, rfl, same_new nt, by rw [upd_same]; simp [headsV]⟩ ?_ ?_
    · rintro σ H' ⟨i, hi, rfl, hs, ht⟩
      obtain ⟨xs, ex⟩ := headsV_last n i
      have hat : atI (headsV n i) (-1) = some (V.int ((n / 2 ^ i : Nat) : Int)) := by rw [ex]; exact atI_last _ _
      refine ⟨_, rfl, (1 : Int), rfl, t, _, _, _, rfl, rfl, SqL.of ht, hat, _, _, rfl, rfl, _, rfl, ?_⟩
      by_cases h0 : n / 2 ^ i = 0
      · have e : decide ((0 : Int) < ((n / 2 ^ i : Nat) : Int)) = false := by rw [h0]; rfl
        rw [e]
        have hid : i = d := by
          refine Nat.le_antisymm hi ((hd i).2 ?_)
          rcases Nat.div_eq_zero_iff.1 h0 with h | h
          · exact absurd h (Nat.pos_iff_ne_zero.1 (Nat.two_pow_pos i))
          · exact h
        subst hid
        exact ⟨_, rfl, k H' t hs nt ht⟩
      · have e : decide ((0 : Int) < ((n / 2 ^ i : Nat) : Int)) = true := decide_eq_true (Int.natCast_pos.2 (Nat.pos_of_ne_zero h0))
        rw [e]
        have hid : i < d := by
          rcases Nat.lt_or_ge i d with h | h
          · exact h
          · have := Nat.le_antisymm hi h
            rw [this] at h0
            exact absurd hdd h0
        have eq2 : ((n / 2 ^ i : Nat) : Int) / 2 = ((n / 2 ^ (i + 1) : Nat) : Int) := by
          rw [Nat.pow_succ, ← Nat.div_div_eq_div_mul]; omega
        refine ⟨_, rfl, .inl ⟨rfl, _, SqL.of ht⟩, _, rfl, (1 : Int), rfl, t, _, _, _, rfl, rfl, SqL.of ht, hat, _, _, rfl, rfl, ⟨by decide, by decide⟩, ?_⟩
        refine ⟨t, headsV n i, _, rfl, rfl, ht, small1000 (by rw [headsV_len]; omega), ⟨i + 1, hid, rfl, fun b o hb => ?_, ?_⟩, ?_⟩
        · rw [upd_ne (ne_of_none hb nt)]; exact hs _ _ hb
        · rw [upd_same, headsV_succ]
          show some (HO.lst (headsV n i ++ [V.int (((n / 2 ^ i : Nat) : Int) / 2)])) = _
          rw [eq2]
        · have e1 : (upd H' t (.lst (headsV n i ++ [V.int (((n / 2 ^ i : Nat) : Int) / 2)]))) t = some (.lst (headsV n i ++ [V.int (((n / 2 ^ i : Nat) : Int) / 2)])) := upd_same
          show (match (upd H' t (.lst (headsV n i ++ [V.int (((n / 2 ^ i : Nat) : Int) / 2)]))) t with
            | some (.lst xs) => d + 1 - xs.length
            | _ => 0) < (match H' t with
            | some (.lst xs) => d + 1 - xs.length
            | _ => 0)
          rw [e1, ht]
          show d + 1 - (headsV n i ++ [V.int (((n / 2 ^ i : Nat) : Int) / 2)]).length < d + 1 - (headsV n i).length
          rw [List.length_append, headsV_len]
          show d + 1 - (i + 1 + 1) < d + 1 - (i + 1)
          omega
    · rintro σ H' Q1 Q2 hq ⟨v, e1, z, e2, a, xs, i, x, e3, e4, e5, e6, j, l, e7, e8, c, e9, q⟩
      exact ⟨v, e1, z, e2, a, xs, i, x, e3, e4, e5, e6, j, l, e7, e8, c, e9, hq _ _ q⟩
theorem ok_oneAt {f : Addr} {fd : FuncData} (F : Fun K "_law_one_at" "_law_one_at" sOneAt f fd) (B : Nm7 mg) (B8 : Nm8 mg) (BN : Nb mg) : FnOk P w K mg base CX0 1 f fd ["_law_at", "_law_many"] (spOneAt K) := by
  refine F.ok scOneAt (fun vs H Q E h => ?_) (fun cdv A outer s H vs Q E hr h => ?_)
  · obtain ⟨z, many, rfl, _⟩ := h
    rfl
  · obtain ⟨z, many, rfl, hm, k⟩ := h
    have nd := scOneAt.nd
    refine ⟨_, pss_one (ps_ret (pe_callTy call_tuple_of (by rfl) B8.tuple (by decide +kernel) (pa_cons (pe_lc (own := [("_law_place", 2)]) (g := gName 2) (tt := tYes) rfl nd (pi_range1 (by rfl) B.range (pa_cons (pv 1) pa_nil)) (blkOk_by (N := ["_law_at", "_law_many", "_law_place"]) (sc := defScope sOneAt) (by decide +kernel))
      (fun _ _ _ _ _ => pg_name (i := 2) nd rfl (Or.inl rfl) (Or.inr rfl)) (fun _ _ _ _ _ => pts_nil)
      (fun _ _ _ _ _ => pe_tup (pa_cons (pe_callTy call_int1 (by rfl) BN.int (by decide +kernel) (pa_cons (pe_cmpR op_eq (pv 2) (pv 0) (nomark _)) pa_nil)) (pa_cons pe_int pa_nil)))) pa_nil))), ?_⟩
    refine ⟨_, rfl, (many : Int), rfl, by omega, by omega, fun D nD => ?_⟩
    have en : (((many : Int)).toNat) = many := by omega
    refine lc_out walk_range (fun i Hc => Same H Hc ∧ ∃ vs : List V, Hc D = some (.lst vs) ∧ vs.length = i ∧ DpAll K Hc vs ((wOne z i).map pairD)) ⟨same_new nD, [], by rw [upd_same], rfl, .nil⟩ (fun _ _ _ _ => trivial) ?_ ?_
    · rintro i x Hc H' hi ⟨hs, vs, hD, hvl, hv⟩ ⟨rfl, rfl⟩
      have him : i < many := by omega
      have eI : ((0 : Int) + (i : Nat)) = (i : Int) := by omega
      show gName 2 (V.int (0 + (i : Nat))) _ _ _
      rw [eI]
      refine ⟨rfl, ?_⟩
      refine ⟨_, rfl, _, rfl, rfl, .inr ⟨_, rfl, by show 2 ≤ sizeLine; decide, fun t nt => ?_⟩⟩
      have ev : (if decide (V.int (i : Int) = V.int z) = true then (1 : Int) else 0) = if (i : Int) = z then 1 else 0 := by
        by_cases h : (i : Int) = z
        · rw [if_pos h, h]; simp
        · rw [if_neg h, decide_eq_false (fun q => h (by injection q))]; rfl
      rw [ev] at *
      have eF : wOne z (i + 1) = wOne z i ++ [(if (i : Int) = z then 1 else 0, 1)] := by
        unfold wOne
        rw [List.range_succ, List.map_append]; rfl
      have st := same_new (o := .tup [.int (if (i : Int) = z then 1 else 0), .int 1]) nt
      have hD2 := st _ _ hD
      refine ⟨_, hD2, small1000 (by omega), fun b o e => ?_, vs ++ [.ref t], by rw [upd_same], by simp [hvl], ?_⟩
      · rw [upd_ne (by intro z; rw [z, nD] at e; cases e)]; exact st _ _ (hs _ _ e)
      · rw [eF, List.map_append]
        exact dpAll_snoc (dp_keep (keepD_lst hD2) (pairD_tup _) (pair_dp (p := (if (i : Int) = z then 1 else 0, 1)) (SqT.of upd_same))) (dpAll_keep (keepD_lst hD2) (tupsOnly_map pairD pairD_tup _) (dpAll_same st hv))
    · rintro Hc ⟨hs, vs, hD, hvl, hv⟩
      rw [en] at hv
      refine ⟨D, vs, rfl, .inl ⟨SqL.of hD, fun T nT => ?_⟩⟩
      exact k _ T (hs.trans (same_new nT)) (hs.free nT) (.tup (SqT.of upd_same) (dpAll_same (same_new nT) hv))
end
end L2.EH
end S_L20
section S_L21
set_option exponentiation.threshold 2000
set_option maxRecDepth 100000
set_option maxHeartbeats 4000000
namespace L2.EH
open PySem PySem.Spec PyProof.Rows StX
open L2.Halves (Rule)
/-! ### the rule of a single, by the law -/
def fE (n d i : Nat) : Halves.Row := if i < d then sEv n i else [(d, 1)]
def fO (n d i : Nat) : Halves.Row := if i < d then sOd n i else []
theorem evens_single (n d : Nat) : (singleL n d).evens = (List.range (d + 1)).map (fE n d) := by
  show (List.range d).map (sEv n) ++ [[(d, 1)]] = _
  rw [List.range_succ, List.map_append]
  congr 1
  · exact List.map_congr_left fun i hi => by unfold fE; rw [if_pos (List.mem_range.1 hi)]
  · show _ = [fE n d d]
    unfold fE; rw [if_neg (Nat.lt_irrefl d)]
theorem odds_single (n d : Nat) : (singleL n d).odds = (List.range (d + 1)).map (fO n d) := by
  show (List.range d).map (sOd n) ++ [[]] = _
  rw [List.range_succ, List.map_append]
  congr 1
  · exact List.map_congr_left fun i hi => by unfold fO; rw [if_pos (List.mem_range.1 hi)]
  · show _ = [fO n d d]
    unfold fO; rw [if_neg (Nat.lt_irrefl d)]
def rowV (n d i : Nat) : List (Int × Int) × List (Int × Int) := (wrow (fE n d i) (d + 1), wrow (fO n d i) (d + 1))
theorem rows_single (n d : Nat) : (singleR n d).rows = (List.range (d + 1)).map (rowV n d) := by
  show List.zipWith _ (singleL n d).evens (singleL n d).odds = _
  rw [evens_single, odds_single]
  have hl : (singleB n d).length = d + 1 := by simp [singleB]
  rw [hl]
  refine List.ext_getElem (by simp) fun i h1 h2 => ?_
  simp [rowV]
theorem wOne_none (m : Nat) : wOne (-1) m = wrow [] m := by
  unfold wOne wrow
  refine List.map_congr_left fun i _ => ?_
  rw [if_neg (by omega)]; rfl
theorem wOne_some (q m : Nat) : wOne (q : Int) m = wrow [(q, 1)] m := by
  unfold wOne wrow
  refine List.map_congr_left fun i _ => ?_
  by_cases h : i = q
  · subst h; simp [Halves.get]
  · rw [if_neg (by omega)]
    have : Halves.get [(q, 1)] i = 0 := by simp [Halves.get, Ne.symm h]
    rw [this]
def zeroV (n i : Nat) : Int := if n / 2 ^ i = 0 then 1 else 0
def basV (n i : Nat) : Nat × Nat := (i, n % 2 ^ i)
def basD (p : Nat × Nat) : PyData := .tuple [.int (p.1 : Int), .int (p.2 : Int)]
def rowD (r : List (Int × Int) × List (Int × Int)) : PyData := .tuple [.tuple (r.1.map pairD), .tuple (r.2.map pairD)]
theorem basD_tup (p : Nat × Nat) : tupOnly (basD p) = true := by simp [basD, tupOnly, tupsOnly]
/-- what rank, basis, equations and firsts of a rule are, as a list -/
def shownD (R : Rule) : PyData := .list [.int (R.basis.length : Int), basisD R, rowsD R, firstsD R]
theorem Same.keepD {H H' : Hp} (s : Same H H') : KeepD H H' := fun x o h _ => s x o h
def spRuleOf (K : PySem.W.Frag) : Sp := fun vs H Q _ => ∃ n : Nat, vs = [.int (n : Int)] ∧ n < 2 ^ 15 ∧ ∀ H' p, Same H H' → H p = none → Dp K H' (.ref p) (shownD (singleR n (bitsN n))) → Q (.ref p) H'
theorem scRuleOf : FnScope ["_law_spot", "_law_heads_here", "_law_by", "_law_parts", "_law_pairs", "_law_many", "_law_at", "_law_pair", "_law_head"] ["_law_spot"] (defScope sRuleOfSingle) := ⟨rfl, rfl, rfl, by decide +kernel, rfl, by decide +kernel, by decide +kernel⟩
theorem starts_zero (n : Nat) : (singleR n (bitsN n)).firsts = (List.range (bitsN n + 1)).map (zeroV n) := by
  have h := vat_single n 0
  rw [Halves.vat_zero] at h
  show (singleL n (bitsN n)).starts = _
  rw [h]
  refine List.map_congr_left fun i _ => ?_
  unfold sVal zeroV
  by_cases h : n / 2 ^ i = 0
  · rw [if_pos h, if_pos h.symm]
  · rw [if_neg h, if_neg (fun z => h z.symm)]
section
variable {P : Program} {w : World} {K : PySem.W.Frag} {mg : Str → Option Value} {base : Heap}
theorem ok_ruleOf {f fH fO' : Addr} {fd fdH fdO : FuncData} (F : Fun K "_law_rule_of_single" "_law_rule_of_single" sRuleOfSingle f fd) (B : Nm7 mg) (B8 : Nm8 mg) (BN : Nb mg) (FH : Fn' P w K mg base 1 "_law_heads" fH fdH ["_law_spot"] spHeads) (FO : Fn' P w K mg base 1 "_law_one_at" fO' fdO ["_law_at", "_law_many"] (spOneAt K)) :
    FnOk P w K mg base CX0 2 f fd ["_law_spot"] (spRuleOf K) := by
  refine F.ok scRuleOf (fun vs H Q E h => ?_) (fun cdv A outer s H vs Q E hr h => ?_)
  · obtain ⟨n, rfl, _⟩ := h
    rfl
  · obtain ⟨n, rfl, hn, k⟩ := h
    have nd := scRuleOf.nd
    refine ⟨_, pss_cons (ps_asg (pe_tup (pa_cons (pe_call FH.ok hr (by rfl) FH.m FH.k FH.b .nil pass0 (pa_cons (pv 0) pa_nil)) (pa_cons pe_int (pa_cons (pe_lst pa_nil) (pa_cons (pe_lst pa_nil) pa_nil))))) (pg_tup rfl (pgs_cons (pg_name (i := 1) nd rfl (Or.inl rfl)) (pgs_cons (pg_name (i := 2) nd rfl (Or.inl rfl)) (pgs_cons (pg_name (i := 3) nd rfl (Or.inl rfl)) (pgs_cons (pg_name (i := 4) nd rfl (Or.inl rfl)) pgs_nil))))))
      (pss_cons (ps_set (i := 5) nd rfl (Or.inl rfl) (pe_callB call_len_seq (by rfl) B.len boot_len (pa_cons (pv 1) pa_nil)))
      (pss_cons (ps_for PassesOwn.never rfl (pi_range1 (by rfl) B.range (pa_cons (pv 5) pa_nil)) (pg_name (i := 6) nd rfl (Or.inl rfl))
        (pss_cons (ps_expr (pe_bm PySem.F.plainAttrs_list PySem.F.slot_list_append PySem.F.type_list_append mt_append (pv 3) (pa_cons (pe_tup (pa_cons (pv 6) (pa_cons (pe_op op_mod (pe_callTy call_int1 (by rfl) BN.int (by decide +kernel) (pa_cons (pv 0) pa_nil)) (pv 2)) pa_nil))) pa_nil)))
        (pss_cons (ps_set (i := 2) nd rfl (Or.inl rfl) (pe_op op_mul pe_int (pv 2)))
        (pss_cons (ps_set (i := 7) nd rfl (Or.inl rfl) (pe_lst (pa_cons (pe_call FO.ok hr (by rfl) FO.m FO.k FO.b .nil pass0 (pa_cons (pe_un un_neg pe_int) (pa_cons (pv 5) pa_nil))) (pa_cons (pe_call FO.ok hr (by rfl) FO.m FO.k FO.b .nil pass0 (pa_cons (pe_un un_neg pe_int) (pa_cons (pv 5) pa_nil))) pa_nil))))
        (pss_cons (ps_asg (pe_call FO.ok hr (by rfl) FO.m FO.k FO.b .nil pass0 (pa_cons (pe_ifExp (pt_cmpR op_lt (pe_op op_add (pv 6) pe_int) (pv 5) (nomark _)) (pe_op op_add (pv 6) pe_int) (pv 6)) (pa_cons (pv 5) pa_nil))) (pg_sub (pv 7) (pe_op op_mod (pe_callTy call_int1 (by rfl) BN.int (by decide +kernel) (pa_cons (pe_ix ix_list (pv 1) (pv 6) (fun _ _ => rfl)) pa_nil)) pe_int) set_list))
        (pss_one (ps_expr (pe_bm PySem.F.plainAttrs_list PySem.F.slot_list_append PySem.F.type_list_append mt_append (pv 4) (pa_cons (pe_tup (pa_cons (pe_ix ix_list (pv 7) pe_int (fun _ _ => rfl)) (pa_cons (pe_ix ix_list (pv 7) pe_int (fun _ _ => rfl)) pa_nil))) pa_nil)))))))))
      (pss_one (ps_ret (pe_lst (pa_cons (pv 5) (pa_cons (pe_callTy call_tuple_of (by rfl) B8.tuple (by decide +kernel) (pa_cons (pv 3) pa_nil)) (pa_cons (pe_callTy call_tuple_of (by rfl) B8.tuple (by decide +kernel) (pa_cons (pv 4) pa_nil)) (pa_cons (pe_callTy call_tuple_of (by rfl) B8.tuple (by decide +kernel) (pa_cons (pe_lc (own := [("_law_head", 8)]) (g := gName 8) (tt := tYes) rfl nd (pi_list (pv 1)) (blkOk_by (N := ["_law_spot", "_law_heads_here", "_law_by", "_law_parts", "_law_pairs", "_law_many", "_law_at", "_law_pair", "_law_head"]) (sc := defScope sRuleOfSingle) (by decide +kernel))
        (fun _ _ _ _ _ => pg_name (i := 8) nd rfl (Or.inl rfl) (Or.inr rfl)) (fun _ _ _ _ _ => pts_nil)
        (fun _ _ _ _ _ => pe_callTy call_int1 (by rfl) BN.int (by decide +kernel) (pa_cons (pe_cmpR op_eq (pv 8) pe_int (nomark _)) pa_nil))) pa_nil)) pa_nil))))))))), ?_⟩
    have hd := bitsN_le n
    have hfz := starts_zero n
    refine ⟨_, rfl, n, rfl, hn, fun H1 t s1 nt ht => ?_⟩
    generalize bitsN n = d at *
    have hd15 := (hd 15).2 hn
    have hdd : n / 2 ^ d = 0 := Nat.div_eq_of_lt ((hd d).1 (Nat.le_refl d))
    refine ⟨by show 0 ≤ sizeLine; decide, fun pa npa => ⟨by show 0 ≤ sizeLine; decide, fun ps nps => ⟨by show 4 ≤ sizeLine; decide, fun T0 nT0 => ?_⟩⟩⟩
    have sa := same_new (o := .lst []) npa
    have sb := same_new (o := .lst []) nps
    have sc := same_new (o := .tup [.ref t, .int 1, .ref pa, .ref ps]) nT0
    have hpa0 := sc _ _ (sb _ _ (show (upd H1 pa (.lst [])) pa = some (.lst []) from upd_same))
    have hps0 := sc _ _ (show (upd (upd H1 pa (.lst [])) ps (.lst [])) ps = some (.lst []) from upd_same)
    have hT0 : (upd (upd (upd H1 pa (.lst [])) ps (.lst [])) T0 (.tup [.ref t, .int 1, .ref pa, .ref ps])) T0 = some (.tup [.ref t, .int 1, .ref pa, .ref ps]) := upd_same
    have s2 := (sa.trans sb).trans sc
    have ht2 := s2 _ _ ht
    have ntp : pa ≠ t := fun z => by rw [z, ht] at npa; cases npa
    have nts : ps ≠ t := fun z => by rw [z, sa _ _ ht] at nps; cases nps
    have nps2 : ps ≠ pa := fun z => by rw [z, upd_same] at nps; cases nps
    have npaH : H pa = none := s1.free npa
    have npsH : H ps = none := (s1.trans sa).free nps
    have sH := s1.trans s2
    clear sa sb sc s2 s1 npa nps nT0 ht
    generalize (upd (upd (upd H1 pa (.lst [])) ps (.lst [])) T0 (.tup [.ref t, .int 1, .ref pa, .ref ps])) = H2 at *
    refine ⟨T0, _, rfl, SqT.of hT0, rfl, _, _, rfl, _, _, rfl, _, _, rfl, _, _, rfl, rfl, ?_⟩
    refine ⟨_, rfl, t, _, rfl, .inl (SqL.of ht2), ?_⟩
    rw [headsV_len]
    refine ⟨_, rfl, ((d + 1 : Nat) : Int), rfl, by omega, by omega, ?_⟩
    have en : (((d + 1 : Nat) : Int)).toNat = d + 1 := by omega
    refine for_range (n := (((d + 1 : Nat) : Int)).toNat) (fun i σ Hc => (∃ x y, σ = [some (.int (n : Int)), some (.ref t), some (.int ((2 ^ i : Nat) : Int)), some (.ref pa), some (.ref ps), some (.int ((d + 1 : Nat) : Int)), x, y, none]) ∧ Same H Hc ∧ Hc t = some (.lst (headsV n d)) ∧
      ∃ vs1 vs2, Hc pa = some (.lst vs1) ∧ vs1.length = i ∧ DpAll K Hc vs1 (((List.range i).map (basV n)).map basD) ∧ Hc ps = some (.lst vs2) ∧ vs2.length = i ∧ DpAll K Hc vs2 (((List.range i).map (rowV n d)).map rowD))
      ⟨⟨_, _, rfl⟩, sH, ht2, [], [], hpa0, rfl, .nil, hps0, rfl, .nil⟩ ?_ ?_
    · rintro i σ Hc hi ⟨⟨x, y, rfl⟩, hs, ht, vs1, vs2, hpa, hv1, hd1, hps, hv2, hd2⟩
      have him : i < d + 1 := by omega
      rw [Int.zero_add]
      refine ⟨_, rfl, .inl ⟨rfl, _, SqL.of hpa⟩, _, rfl, _, rfl, .inl ⟨_, rfl, _, rfl, _, _, rfl, rfl, ?_, by show 2 ≤ sizeLine; decide, fun T1 nT1 => ?_⟩⟩
      · exact Int.natCast_pos.2 (Nat.two_pow_pos i)
      have s1 := same_new (o := .tup [.int (i : Int), .int ((n : Int) % ((2 ^ i : Nat) : Int))]) nT1
      have hT1 : (upd Hc T1 (.tup [.int (i : Int), .int ((n : Int) % ((2 ^ i : Nat) : Int))])) T1 = some (.tup [.int (i : Int), .int ((n % 2 ^ i : Nat) : Int)]) := by rw [upd_same]; rfl
      have hpa1 := s1 _ _ hpa
      have hps1 := s1 _ _ hps
      have ht1 := s1 _ _ ht
      have hs1 := hs.trans s1
      have hd11 := dpAll_same s1 hd1
      have hd21 := dpAll_same s1 hd2
      generalize (upd Hc T1 (.tup [.int (i : Int), .int ((n : Int) % ((2 ^ i : Nat) : Int))])) = H3 at *
      refine ⟨pa, vs1, .ref T1, rfl, rfl, hpa1, small1000 (by omega), ?_⟩
      have k1 : KeepD H3 (upd H3 pa (.lst (vs1 ++ [.ref T1]))) := keepD_lst hpa1
      have hd12 : DpAll K (upd H3 pa (.lst (vs1 ++ [.ref T1]))) (vs1 ++ [.ref T1]) (((List.range (i + 1)).map (basV n)).map basD) := by
        rw [List.range_succ, List.map_append, List.map_append]
        exact dpAll_snoc (dp_keep k1 (basD_tup (basV n i)) (.tup (SqT.of hT1) (.cons (.int _) (.cons (.int _) .nil)))) (dpAll_keep k1 (tupsOnly_map _ basD_tup _) hd11)
      have hd22 := dpAll_keep k1 (tupsOnly_map _ rt_row _) hd21
      have hpa2 : (upd H3 pa (.lst (vs1 ++ [.ref T1]))) pa = some (.lst (vs1 ++ [.ref T1])) := upd_same
      have hps2 : (upd H3 pa (.lst (vs1 ++ [.ref T1]))) ps = some (.lst vs2) := by rw [upd_ne nps2]; exact hps1
      have ht2' : (upd H3 pa (.lst (vs1 ++ [.ref T1]))) t = some (.lst (headsV n d)) := by rw [upd_ne (Ne.symm ntp)]; exact ht1
      have hs2 : Same H (upd H3 pa (.lst (vs1 ++ [.ref T1]))) := fun b o hb => by rw [upd_ne (ne_of_none hb npaH)]; exact hs1 _ _ hb
      clear hpa1 hps1 ht1 hs1 hd11 hd21 k1 hT1 s1 hs ht hpa hps hd1 hd2 nT1
      generalize (upd H3 pa (.lst (vs1 ++ [.ref T1]))) = H4 at *
      refine ⟨_, rfl, _, _, rfl, rfl, .inl ⟨by decide, by decide⟩, ?_⟩
      refine ⟨(1 : Int), rfl, _, rfl, (-1 : Int), d + 1, rfl, by omega, fun H5 p5 s5 np5 dp5 => ?_⟩
      refine ⟨(1 : Int), rfl, _, rfl, (-1 : Int), d + 1, rfl, by omega, fun H6 p6 s6 np6 dp6 => ?_⟩
      refine ⟨by show 2 ≤ sizeLine; decide, fun pr npr => ?_⟩
      have s7 := same_new (o := .lst [.ref p5, .ref p6]) npr
      have hpr : (upd H6 pr (.lst [.ref p5, .ref p6])) pr = some (.lst [.ref p5, .ref p6]) := upd_same
      have sx := (s5.trans s6).trans s7
      have dp5' := dp_same (s6.trans s7) dp5
      have dp6' := dp_same s7 dp6
      have hpa3 := sx _ _ hpa2
      have hps3 := sx _ _ hps2
      have ht3 := sx _ _ ht2'
      have hs3 := hs2.trans sx
      have npr1 : H pr = none := (hs2.trans (s5.trans s6)).free npr
      have hd13 := dpAll_same sx hd12
      have hd23 := dpAll_same sx hd22
      have prt : pr ≠ t := fun z => by rw [z] at npr; rw [(s5.trans s6) _ _ ht2'] at npr; cases npr
      have prpa : pr ≠ pa := fun z => by rw [z] at npr; rw [(s5.trans s6) _ _ hpa2] at npr; cases npr
      have prps : pr ≠ ps := fun z => by rw [z] at npr; rw [(s5.trans s6) _ _ hps2] at npr; cases npr
      clear s7 sx hpa2 hps2 ht2' hs2 hd12 hd22 dp5 dp6
      generalize (upd H6 pr (.lst [.ref p5, .ref p6])) = H7 at *
      have hbit : n / 2 ^ i % 2 = 0 ∨ n / 2 ^ i % 2 = 1 := by omega
      have hat : atI (headsV n d) (i : Int) = some (V.int ((n / 2 ^ i : Nat) : Int)) := atI_nat (by unfold headsV; rw [List.getElem?_map, List.getElem?_range him]; rfl)
      have epow : (2 : Int) * ((2 ^ i : Nat) : Int) = ((2 ^ (i + 1) : Nat) : Int) := by rw [Nat.pow_succ]; omega
      have rest : ∀ (H8 : Hp) (p8 : Addr) (row : Halves.Row), Same H7 H8 → Dp K H8 (.ref p8) (.tuple ((wrow row (d + 1)).map pairD)) → ((n / 2 ^ i % 2 = 0 ∧ fE n d i = row ∧ fO n d i = []) ∨ (n / 2 ^ i % 2 = 1 ∧ fE n d i = [] ∧ fO n d i = row)) →
          ∃ (j : Nat) (a b : Addr), ixN 2 (((n / 2 ^ i : Nat) : Int) % 2) = some j ∧ [V.ref p5, V.ref p6].set j (V.ref p8) = [.ref a, .ref b] ∧ ∀ T2, (upd H8 pr (.lst [.ref a, .ref b])) T2 = none →
            (upd (upd H8 pr (.lst [.ref a, .ref b])) T2 (.tup [.ref a, .ref b])) ps = some (.lst vs2) ∧
            Same H (upd (upd (upd H8 pr (.lst [.ref a, .ref b])) T2 (.tup [.ref a, .ref b])) ps (.lst (vs2 ++ [.ref T2]))) ∧ (upd (upd (upd H8 pr (.lst [.ref a, .ref b])) T2 (.tup [.ref a, .ref b])) ps (.lst (vs2 ++ [.ref T2]))) t = some (.lst (headsV n d)) ∧
            ∃ vs1' vs2', (upd (upd (upd H8 pr (.lst [.ref a, .ref b])) T2 (.tup [.ref a, .ref b])) ps (.lst (vs2 ++ [.ref T2]))) pa = some (.lst vs1') ∧ vs1'.length = i + 1 ∧ DpAll K (upd (upd (upd H8 pr (.lst [.ref a, .ref b])) T2 (.tup [.ref a, .ref b])) ps (.lst (vs2 ++ [.ref T2]))) vs1' (((List.range (i + 1)).map (basV n)).map basD) ∧
            (upd (upd (upd H8 pr (.lst [.ref a, .ref b])) T2 (.tup [.ref a, .ref b])) ps (.lst (vs2 ++ [.ref T2]))) ps = some (.lst vs2') ∧ vs2'.length = i + 1 ∧ DpAll K (upd (upd (upd H8 pr (.lst [.ref a, .ref b])) T2 (.tup [.ref a, .ref b])) ps (.lst (vs2 ++ [.ref T2]))) vs2' (((List.range (i + 1)).map (rowV n d)).map rowD) := by
        intro H8 p8 row s8 dp8 hc
        have hpr8 := s8 _ _ hpr
        have main : ∀ (a b : Addr), Dp K H8 (.ref a) (.tuple ((rowV n d i).1.map pairD)) → Dp K H8 (.ref b) (.tuple ((rowV n d i).2.map pairD)) → ∀ T2, (upd H8 pr (.lst [.ref a, .ref b])) T2 = none →
            (upd (upd H8 pr (.lst [.ref a, .ref b])) T2 (.tup [.ref a, .ref b])) ps = some (.lst vs2) ∧
            Same H (upd (upd (upd H8 pr (.lst [.ref a, .ref b])) T2 (.tup [.ref a, .ref b])) ps (.lst (vs2 ++ [.ref T2]))) ∧ (upd (upd (upd H8 pr (.lst [.ref a, .ref b])) T2 (.tup [.ref a, .ref b])) ps (.lst (vs2 ++ [.ref T2]))) t = some (.lst (headsV n d)) ∧
            ∃ vs1' vs2', (upd (upd (upd H8 pr (.lst [.ref a, .ref b])) T2 (.tup [.ref a, .ref b])) ps (.lst (vs2 ++ [.ref T2]))) pa = some (.lst vs1') ∧ vs1'.length = i + 1 ∧ DpAll K (upd (upd (upd H8 pr (.lst [.ref a, .ref b])) T2 (.tup [.ref a, .ref b])) ps (.lst (vs2 ++ [.ref T2]))) vs1' (((List.range (i + 1)).map (basV n)).map basD) ∧
            (upd (upd (upd H8 pr (.lst [.ref a, .ref b])) T2 (.tup [.ref a, .ref b])) ps (.lst (vs2 ++ [.ref T2]))) ps = some (.lst vs2') ∧ vs2'.length = i + 1 ∧ DpAll K (upd (upd (upd H8 pr (.lst [.ref a, .ref b])) T2 (.tup [.ref a, .ref b])) ps (.lst (vs2 ++ [.ref T2]))) vs2' (((List.range (i + 1)).map (rowV n d)).map rowD) := by
          intro a b da db T2 nT2
          have kA : KeepD H8 (upd H8 pr (.lst [.ref a, .ref b])) := keepD_lst hpr8
          have sB := same_new (o := .tup [.ref a, .ref b]) nT2
          have hps9 : (upd H8 pr (.lst [.ref a, .ref b])) ps = some (.lst vs2) := by rw [upd_ne (Ne.symm prps)]; exact s8 _ _ hps3
          have hpsB := sB _ _ hps9
          have kC : KeepD (upd (upd H8 pr (.lst [.ref a, .ref b])) T2 (.tup [.ref a, .ref b])) (upd (upd (upd H8 pr (.lst [.ref a, .ref b])) T2 (.tup [.ref a, .ref b])) ps (.lst (vs2 ++ [.ref T2]))) := keepD_lst hpsB
          have kAC : KeepD H8 (upd (upd (upd H8 pr (.lst [.ref a, .ref b])) T2 (.tup [.ref a, .ref b])) ps (.lst (vs2 ++ [.ref T2]))) := (kA.trans (Same.keepD sB)).trans kC
          have hT2 : (upd (upd (upd H8 pr (.lst [.ref a, .ref b])) T2 (.tup [.ref a, .ref b])) ps (.lst (vs2 ++ [.ref T2]))) T2 = some (.tup [.ref a, .ref b]) := kC _ _ upd_same rfl
          refine ⟨hpsB, fun b o hb => ?_, ?_, vs1 ++ [.ref T1], vs2 ++ [.ref T2], ?_, by simp [hv1], ?_, upd_same, by simp [hv2], ?_⟩
          · rw [upd_ne (ne_of_none hb npsH)]
            refine sB _ _ ?_
            rw [upd_ne (ne_of_none hb npr1)]
            exact s8 _ _ (hs3 _ _ hb)
          · rw [upd_ne (Ne.symm nts)]
            refine sB _ _ ?_
            rw [upd_ne (Ne.symm prt)]
            exact s8 _ _ ht3
          · rw [upd_ne (Ne.symm nps2)]
            refine sB _ _ ?_
            rw [upd_ne (Ne.symm prpa)]
            exact s8 _ _ hpa3
          · exact dpAll_keep kAC (tupsOnly_map _ basD_tup _) (dpAll_same s8 hd13)
          · rw [List.range_succ, List.map_append, List.map_append]
            have rl : ∀ r : List (Int × Int), tupOnly (.tuple (r.map pairD)) = true := fun r => by simp [tupOnly, tupsOnly_map pairD pairD_tup]
            exact dpAll_snoc (.tup (SqT.of hT2) (.cons (dp_keep kAC (rl _) da) (.cons (dp_keep kAC (rl _) db) .nil))) (dpAll_keep kAC (tupsOnly_map _ rt_row _) (dpAll_same s8 hd23))
        have z5 := dp_same s8 dp5'
        have z6 := dp_same s8 dp6'
        rw [wOne_none] at z5 z6
        rcases hc with ⟨hb, h1, h2⟩ | ⟨hb, h1, h2⟩
        · have ex : ((n / 2 ^ i : Nat) : Int) % 2 = 0 := by rw [show (2 : Int) = ((2 : Nat) : Int) from rfl, ← Int.natCast_emod, hb]; rfl
          refine ⟨0, p8, p6, by rw [ex]; rfl, rfl, main p8 p6 ?_ ?_⟩
          · unfold rowV; rw [h1]; exact dp8
          · unfold rowV; rw [h2]; exact z6
        · have ex : ((n / 2 ^ i : Nat) : Int) % 2 = 1 := by rw [show (2 : Int) = ((2 : Nat) : Int) from rfl, ← Int.natCast_emod, hb]; rfl
          refine ⟨1, p5, p8, by rw [ex]; rfl, rfl, main p5 p8 ?_ ?_⟩
          · unfold rowV; rw [h1]; exact z5
          · unfold rowV; rw [h2]; exact dp8
      by_cases hid : i < d
      · have e1 : decide ((i : Int) + 1 < ((d + 1 : Nat) : Int)) = true := decide_eq_true (by omega)
        refine ⟨_, rfl, _, _, rfl, rfl, _, rfl, _, _, rfl, rfl, _, rfl, ?_⟩
        rw [e1]
        refine iteT ⟨_, rfl, _, _, rfl, rfl, _, rfl, ((i + 1 : Nat) : Int), d + 1, rfl, by omega, fun H8 p8 s8 np8 dp8 => ?_⟩
        rw [wOne_some] at dp8
        have hc : (n / 2 ^ i % 2 = 0 ∧ fE n d i = [(i + 1, 1)] ∧ fO n d i = []) ∨ (n / 2 ^ i % 2 = 1 ∧ fE n d i = [] ∧ fO n d i = [(i + 1, 1)]) := by
          unfold fE fO sEv sOd sFol
          rw [if_pos hid, if_pos hid]
          rcases hbit with h | h
          · exact .inl ⟨h, by rw [if_pos h], by rw [if_neg (by omega)]⟩
          · exact .inr ⟨h, by rw [if_neg (by omega)], by rw [if_pos h]⟩
        obtain ⟨j, a, b, hix, hset, hfin⟩ := rest H8 p8 _ s8 dp8 hc
        refine ⟨_, rfl, _, rfl, _, rfl, t, _, _, _, rfl, rfl, SqL.of (s8 _ _ ht3), hat, .inl ⟨_, rfl, _, _, rfl, rfl, by show (0 : Int) < 2; decide, pr, _, _, j, rfl, rfl, s8 _ _ hpr, hix, ?_⟩⟩
        rw [hset]
        refine ⟨_, rfl, .inl ⟨rfl, _, SqL.of (by rw [upd_ne (Ne.symm prps)]; exact s8 _ _ hps3)⟩, _, rfl, pr, _, _, _, rfl, rfl, SqL.of upd_same, rfl, _, rfl, pr, _, _, _, rfl, rfl, SqL.of upd_same, rfl, by show 2 ≤ sizeLine; decide, fun T2 nT2 => ?_⟩
        obtain ⟨f1, f2, f3, f4⟩ := hfin T2 nT2
        refine ⟨ps, vs2, .ref T2, rfl, rfl, f1, small1000 (by omega), ⟨some (.int (i : Int)), some (.ref pr), ?_⟩, f2, f3, f4⟩
        rw [← epow]; rfl
      · have hid' : i = d := by omega
        have e1 : decide ((i : Int) + 1 < ((d + 1 : Nat) : Int)) = false := decide_eq_false (by omega)
        refine ⟨_, rfl, _, _, rfl, rfl, _, rfl, _, _, rfl, rfl, _, rfl, ?_⟩
        rw [e1]
        refine iteF ⟨_, rfl, _, rfl, (i : Int), d + 1, rfl, by omega, fun H8 p8 s8 np8 dp8 => ?_⟩
        rw [wOne_some] at dp8
        have hc : (n / 2 ^ i % 2 = 0 ∧ fE n d i = [(i, 1)] ∧ fO n d i = []) ∨ (n / 2 ^ i % 2 = 1 ∧ fE n d i = [] ∧ fO n d i = [(i, 1)]) := by
          unfold fE fO
          rw [if_neg hid, if_neg hid]
          refine .inl ⟨?_, by rw [hid'], rfl⟩
          rw [hid', hdd]
        obtain ⟨j, a, b, hix, hset, hfin⟩ := rest H8 p8 _ s8 dp8 hc
        refine ⟨_, rfl, _, rfl, _, rfl, t, _, _, _, rfl, rfl, SqL.of (s8 _ _ ht3), hat, .inl ⟨_, rfl, _, _, rfl, rfl, by show (0 : Int) < 2; decide, pr, _, _, j, rfl, rfl, s8 _ _ hpr, hix, ?_⟩⟩
        rw [hset]
        refine ⟨_, rfl, .inl ⟨rfl, _, SqL.of (by rw [upd_ne (Ne.symm prps)]; exact s8 _ _ hps3)⟩, _, rfl, pr, _, _, _, rfl, rfl, SqL.of upd_same, rfl, _, rfl, pr, _, _, _, rfl, rfl, SqL.of upd_same, rfl, by show 2 ≤ sizeLine; decide, fun T2 nT2 => ?_⟩
        obtain ⟨f1, f2, f3, f4⟩ := hfin T2 nT2
        refine ⟨ps, vs2, .ref T2, rfl, rfl, f1, small1000 (by omega), ⟨some (.int (i : Int)), some (.ref pr), ?_⟩, f2, f3, f4⟩
        rw [← epow]; rfl
    · rintro σ Hc ⟨⟨x, y, rfl⟩, hs, ht, vs1, vs2, hpa, hv1, hd1, hps, hv2, hd2⟩
      rw [en] at hd1 hd2
      refine ⟨_, rfl, _, rfl, pa, vs1, rfl, .inl ⟨SqL.of hpa, fun t1 nt1 => ?_⟩⟩
      have s1 := same_new (o := .tup vs1) nt1
      have d1 : Dp K (upd Hc t1 (.tup vs1)) (.ref t1) (basisD (singleR n d)) := .tup (SqT.of upd_same) (dpAll_same s1 hd1)
      have hps1 := s1 _ _ hps
      have hd21 := dpAll_same s1 hd2
      have ht1 := s1 _ _ ht
      have hs1 := hs.trans s1
      clear hd1 hd2 hs ht hpa hps s1
      generalize (upd Hc t1 (.tup vs1)) = H3 at *
      refine ⟨_, rfl, ps, vs2, rfl, .inl ⟨SqL.of hps1, fun t2 nt2 => ?_⟩⟩
      have s2 := same_new (o := .tup vs2) nt2
      have d2 : Dp K (upd H3 t2 (.tup vs2)) (.ref t2) (rowsD (singleR n d)) := by
        refine .tup (SqT.of upd_same) ?_
        rw [rows_single]
        exact dpAll_same s2 hd21
      have d1' := dp_same s2 d1
      have ht2 := s2 _ _ ht1
      have hs2 := hs1.trans s2
      clear hd21 s2 d1 hs1 ht1 hps1
      generalize (upd H3 t2 (.tup vs2)) = H4 at *
      refine ⟨_, rfl, t, rfl, ⟨_, SqL.of ht2⟩, fun D nD => ?_⟩
      refine lc_out (walk_list (xs := headsV n d)) (fun i Hc => Same H4 Hc ∧ Hc D = some (.lst (((List.range i).map (zeroV n)).map V.int))) ⟨same_new nD, upd_same⟩ (fun i Hc _ hP => SqL.of (hP.1 _ _ ht2)) ?_ ?_
      · rintro i x Hc H' hi ⟨hs, hD⟩ ⟨rfl, hx⟩
        have him : i < d + 1 := by rw [headsV_len] at hi; exact hi
        have hx' : (headsV n d)[i]? = some (V.int ((n / 2 ^ i : Nat) : Int)) := by unfold headsV; rw [List.getElem?_map, List.getElem?_range him]; rfl
        rw [hx'] at hx
        injection hx with hx
        subst hx
        refine ⟨rfl, ?_⟩
        have ez : (if decide (V.int ((n / 2 ^ i : Nat) : Int) = V.int 0) = true then (1 : Int) else 0) = zeroV n i := by
          unfold zeroV
          by_cases h : n / 2 ^ i = 0
          · rw [if_pos h, h]; rfl
          · rw [if_neg h, decide_eq_false (fun q => h (by injection q with q; omega))]; rfl
        refine ⟨_, rfl, rfl, .inr ⟨_, rfl, ?_⟩⟩
        rw [ez]
        refine ⟨_, hD, small1000 (by simp; omega), fun b o e => ?_, ?_⟩
        · rw [upd_ne (by intro z; rw [z, nD] at e; cases e)]; exact hs _ _ e
        · rw [upd_same, List.range_succ, List.map_append, List.map_append]; rfl
      · rintro Hc ⟨hs, hD⟩
        rw [headsV_len] at hD
        refine ⟨D, _, rfl, .inl ⟨SqL.of hD, fun t3 nt3 => ?_⟩⟩
        have s3 := same_new (o := .tup (((List.range (d + 1)).map (zeroV n)).map V.int)) nt3
        have d3 : Dp K (upd Hc t3 (.tup (((List.range (d + 1)).map (zeroV n)).map V.int))) (.ref t3) (firstsD (singleR n d)) := by
          refine .tup (SqT.of upd_same) ?_
          rw [hfz]
          have hin : ∀ (Hq : Hp) (zs : List Int), DpAll K Hq (zs.map V.int) (zs.map PyData.int) := fun Hq zs => by
            induction zs with
            | nil => exact .nil
            | cons z zs ih => exact .cons (.int _) ih
          exact hin _ _
        have s4 := hs.trans s3
        have d1'' := dp_same s4 d1'
        have d2'' := dp_same s4 d2
        have hs4 := hs2.trans s4
        generalize (upd Hc t3 (.tup (((List.range (d + 1)).map (zeroV n)).map V.int))) = H5 at *
        refine ⟨by show 4 ≤ sizeLine; decide, fun r nr => ?_⟩
        have s5 := same_new (o := .lst [.int ((d + 1 : Nat) : Int), .ref t1, .ref t2, .ref t3]) nr
        refine k _ r (hs4.trans s5) (hs4.free nr) (.lst (SqL.of upd_same) (.cons ?_ (.cons (dp_same s5 d1'') (.cons (dp_same s5 d2'') (.cons (dp_same s5 d3) .nil)))))
        have : ((singleR n d).basis.length : Int) = ((d + 1 : Nat) : Int) := by
          show ((singleB n d).length : Int) = _
          simp [singleB]
        rw [this]; exact .int _
end
end L2.EH
end S_L21
section S_L22
set_option exponentiation.threshold 2000
set_option maxRecDepth 100000
set_option maxHeartbeats 4000000
namespace L2.EH
open PySem PySem.Spec PyProof.Rows StX
open L2.Halves (WLines Rule)
theorem dpAll_len {K : PySem.W.Frag} {H : Hp} : ∀ {xs : List V} {ds : List PyData}, DpAll K H xs ds → xs.length = ds.length
  | _, _, .nil => rfl
  | _, _, .cons _ h => by rw [List.length_cons, List.length_cons, dpAll_len h]
theorem dp_tup_inv {K : PySem.W.Frag} {H : Hp} {b : Addr} {ds : List PyData} (h : Dp K H (.ref b) (.tuple ds)) : ∃ xs, SqT K H b xs ∧ xs.length = ds.length := by
  cases h with
  | tup a c => exact ⟨_, a, dpAll_len c⟩
/-- a property of a class -/
structure PropF (P : Program) (w : World) (K : PySem.W.Frag) (mg : Str → Option Value) (base : Heap) (C : Addr) (f : Str) (p g : Addr) (fd : FuncData) (sp : Sp) : Prop where
  of : PropOf K C f p g
  ok : FnOk P w K mg base CX0 1 g fd ["self"] sp
  b : Binds K fd ["self"] []
def spShown (K : PySem.W.Frag) (CL CH : Addr) : Sp := fun vs H Q _ => ∃ (a : Addr) (L : WLines) (mix : Halves.Row) (R : Rule), vs = [.ref a] ∧ FnAt K CL CH H a L mix R ∧ ∀ H' p, Same H H' → H p = none → Dp K H' (.ref p) (shownD R) → Q (.ref p) H'
def spTooMany : Sp := fun vs H Q _ => ∃ n : Nat, vs = [.int (n : Int)] ∧ 2 ^ 15 ≤ n ∧ (n : Int) ≤ big ∧ Q (.bl true) H
theorem scShown : FnScope ["_law_f"] ["_law_f"] (defScope sShown) := ⟨rfl, rfl, rfl, by decide +kernel, rfl, by decide +kernel, by decide +kernel⟩
theorem scTooMany : FnScope ["_law_spot"] ["_law_spot"] (defScope sTooMany) := ⟨rfl, rfl, rfl, by decide +kernel, rfl, by decide +kernel, by decide +kernel⟩
section
variable {P : Program} {w : World} {K : PySem.W.Frag} {mg : Str → Option Value} {base : Heap}
theorem ok_shown {CL CH f p1 p2 p3 p4 g1 g2 g3 g4 : Addr} {fd d1 d2 d3 d4 : FuncData} (F : Fun K "_law_shown" "_law_shown" sShown f fd) (T : HalvedC K CH) (R1 : PropF P w K mg base CH "rank" p1 g1 d1 (spRank K CH)) (R2 : PropF P w K mg base CH "basis" p2 g2 d2 (spGet CH "_basis"))
    (R3 : PropF P w K mg base CH "equations" p3 g3 d3 (spGet CH "_equations")) (R4 : PropF P w K mg base CH "firsts" p4 g4 d4 (spGet CH "_firsts")) : FnOk P w K mg base CX0 3 f fd ["_law_f"] (spShown K CL CH) := by
  refine F.ok scShown (fun vs H Q E h => ?_) (fun cdv A outer s H vs Q E hr h => ?_)
  · obtain ⟨a, L, mix, R, rfl, _⟩ := h
    rfl
  · obtain ⟨a, L, mix, R, rfl, ha, k⟩ := h
    refine ⟨_, pss_one (ps_ret (pe_lst (pa_cons (pe_prop (pv 0) T.cl R1.of R1.ok hr R1.b .nil pass0 rfl) (pa_cons (pe_prop (pv 0) T.cl R2.of R2.ok hr R2.b .nil pass0 rfl) (pa_cons (pe_prop (pv 0) T.cl R3.of R3.ok hr R3.b .nil pass0 rfl) (pa_cons (pe_prop (pv 0) T.cl R4.of R4.ok hr R4.b .nil pass0 rfl) pa_nil)))))), ?_⟩
    obtain ⟨dx, l, m, b, e, f', h1, h2, h3, h4, h5, h6⟩ := ha.ex
    obtain ⟨xs, hx, hl⟩ := dp_tup_inv h4
    refine ⟨_, rfl, a, dx, _, rfl, h1, a, dx, b, _, xs, rfl, h1, fnF_b l m b e f', hx, ?_⟩
    refine ⟨_, rfl, a, dx, _, rfl, h1, a, dx, _, _, rfl, h1, fnF_b l m b e f', ?_⟩
    refine ⟨_, rfl, a, dx, _, rfl, h1, a, dx, _, _, rfl, h1, fnF_e l m b e f', ?_⟩
    refine ⟨_, rfl, a, dx, _, rfl, h1, a, dx, _, _, rfl, h1, fnF_f l m b e f', ?_⟩
    refine ⟨by show 4 ≤ sizeLine; decide, fun p np => ?_⟩
    have s := same_new (o := .lst [.int (xs.length : Int), .ref b, .ref e, .ref f']) np
    have hl' : xs.length = R.basis.length := by rw [hl, List.length_map]
    refine k _ p s np (.lst (SqL.of upd_same) (.cons ?_ (.cons (dp_same s h4) (.cons (dp_same s h5) (.cons (dp_same s h6) .nil)))))
    rw [hl']; exact .int _
theorem ok_tooMany {CL CH CT f fS : Addr} {fd fdS : FuncData} (F : Fun K "_law_too_many" "_law_too_many" sTooMany f fd) (FS : FnOk P w K mg base (L2.CX P w) 4 fS fdS ["n"] (spSingle K CL CH CT)) (bS : Binds K fdS ["n"] []) (gS : mg "single" = some (.ref fS)) (kS : PySem.W.keepIn K (.ref fS) = true)
    (gT : mg "TooMany" = some (.ref CT)) (eT : PySem.W.exmOne K (.ref CT) (.ref CT) = some true) : FnOk P w K mg base CX0 5 f fd ["_law_spot"] spTooMany := by
  refine F.ok scTooMany (fun vs H Q E h => ?_) (fun cdv A outer s H vs Q E hr h => ?_)
  · obtain ⟨n, rfl, _⟩ := h
    rfl
  · obtain ⟨n, rfl, h1, h2, k⟩ := h
    refine ⟨_, pss_cons (ps_try_only rfl rfl ⟨rfl, by decide, .inl gT⟩ takes0 (fun W pn xe tk _ => pss_one (ps_expr (pe_callS FS (by exact hr) (by rfl) gS kS bS (fun σ => passAt tk σ) (pa_cons (pv 0) pa_nil)))) (fun a oe cls d pn _ _ => pss_one (ps_ret pe_bl)))
      (pss_one (ps_ret pe_bl)), ?_⟩
    refine ⟨_, rfl, n, rfl, h2, fun _ => ⟨true, eT, fun _ a ha => k, fun q => nomatch q⟩, fun z => absurd z (by omega)⟩
end
end L2.EH
end S_L22
section S_L23
set_option exponentiation.threshold 2000
set_option maxRecDepth 100000
set_option maxHeartbeats 4000000
namespace L2.EH
open PySem PySem.Spec PyProof.Rows StX
open L2.Halves (WLines Rule vat sumOf)
/-! ### what stays while a purse changes -/
section
variable {K : PySem.W.Frag} {H H' : Hp} {p : Addr} {lo hi : Nat}
theorem rd_kept {a : Addr} {o : HO} (hk : Kept p H H') (h : Rd H a o) (hne : a ≠ p) : Rd H' a o := by
  rcases h with h | ⟨d, h⟩
  · exact .inl (hk _ _ hne h)
  · exact .inr ⟨d, hk _ _ hne h⟩
theorem Purse.rd (hP : Purse H p lo hi) {xs : List V} (h : Rd H p (.lst xs)) : ∃ m f c : Int, (lo : Int) ≤ c ∧ xs = [.int m, .int f, .int c] := by
  obtain ⟨m, f, c, h1, h2, h3, h4, h5, h6⟩ := hP
  rcases h with h | ⟨d, h⟩
  · rw [h1] at h
    injection h with h
    injection h with h
    exact ⟨m, f, c, h5, h.symm⟩
  · rw [h1] at h
    injection h with h
    cases h
theorem sqL_kept (hP : Purse H p lo hi) (hk : Kept p H H') {a : Addr} {xs : List V} (hx : ∀ m f c : Int, (lo : Int) ≤ c → xs ≠ [.int m, .int f, .int c]) (h : SqL K H a xs) : SqL K H' a xs := by
  rcases h with h | h
  · refine .inl (rd_kept hk h fun z => ?_)
    rw [z] at h
    obtain ⟨m, f, c, h1, h2⟩ := hP.rd h
    exact hx m f c h1 h2
  · exact .inr h
theorem sqT_kept (hP : Purse H p lo hi) (hk : Kept p H H') {a : Addr} {xs : List V} (h : SqT K H a xs) : SqT K H' a xs := by
  rcases h with h | h
  · refine .inl (rd_kept hk h fun z => ?_)
    rw [z] at h
    obtain ⟨m, f, c, h1, _⟩ := hP
    rcases h with h | ⟨d, h⟩
    · rw [h1] at h
      injection h with h
      cases h
    · rw [h1] at h
      injection h with h
      cases h
  · exact .inr h
theorem at_kept (hP : Purse H p lo hi) (hk : Kept p H H') {a : Addr} {o : HO} (ho : isD o = true) (h : H a = some o) : H' a = some o := by
  refine hk _ _ (fun z => ?_) h
  obtain ⟨m, f, c, h1, _⟩ := hP
  rw [z, h1] at h
  injection h with h
  rw [← h] at ho
  cases ho
theorem keepD_kept (hP : Purse H p lo hi) (hk : Kept p H H') : KeepD H H' := fun b o h d => at_kept hP hk d h
theorem rowsAt_kept (hP : Purse H p lo hi) (hk : Kept p H H') {a : Addr} {M : List Halves.Row} (h : RowsAt K H a M) : RowsAt K H' a M := by
  obtain ⟨xs, h1, h2, h3⟩ := h
  refine ⟨xs, sqL_kept hP hk (fun m f c _ z => ?_) h1, h2, fun i a b => at_kept hP hk rfl (h3 i a b)⟩
  rcases xs with _ | ⟨x, xs⟩
  · cases z
  · rw [List.map_cons] at z
    injection z with z
    cases z
theorem basis_tup (R : Rule) : tupOnly (basisD R) = true := by
  show tupsOnly (R.basis.map basD) = true
  exact tupsOnly_map _ basD_tup _
theorem rows_tup (R : Rule) : tupOnly (rowsD R) = true := by
  show tupsOnly (R.rows.map rowD) = true
  exact tupsOnly_map _ rt_row _
theorem firsts_tup (R : Rule) : tupOnly (firstsD R) = true := by
  show tupsOnly (R.firsts.map PyData.int) = true
  exact tupsOnly_map _ (fun _ => rfl) _
theorem FnAt.kept {CL CH a : Addr} {L : WLines} {mix : Halves.Row} {R : Rule} (hP : Purse H p lo hi) (hk : Kept p H H') (hs : ∀ m f c : Int, (lo : Int) ≤ c → L.starts ≠ [m, f, c]) (h : FnAt K CL CH H a L mix R) : FnAt K CL CH H' a L mix R := by
  obtain ⟨dx, l, m, b, e, f, h1, h2, h3, h4, h5, h6⟩ := h.ex
  obtain ⟨dx', t, e', o, st, g1, g2, g3, g4, g5⟩ := h2.ex
  have kd := keepD_kept hP hk
  refine ⟨dx, l, m, b, e, f, at_kept hP hk rfl h1, ⟨dx', t, e', o, st, at_kept hP hk rfl g1, sqT_kept hP hk g2, rowsAt_kept hP hk g3, rowsAt_kept hP hk g4, sqL_kept hP hk (fun m f c hc z => ?_) g5⟩, at_kept hP hk rfl h3, dp_keep kd (basis_tup R) h4, dp_keep kd (rows_tup R) h5, dp_keep kd (firsts_tup R) h6⟩
  refine hs m f c hc ?_
  have : (L.starts.map V.int) = ([m, f, c] : List Int).map V.int := z
  exact (List.map_inj_right (fun a b h => by injection h)).1 this
end
end L2.EH
end S_L23
section S_L24
set_option exponentiation.threshold 2000
set_option maxRecDepth 100000
set_option maxHeartbeats 4000000
namespace L2.EH
open PySem PySem.Spec PyProof.Rows StX
open L2.Halves (WLines Rule vat sumOf)
/-! ### an object is called: the reading does not name the frame -/
section
variable {X : Cx} {CX : CXT} {k : Nat} {C g : Addr} {sp : Sp} {E : XK} {e fe : Expr} {es : List Expr} {tf : TE} {t : TA} {pos : Pos}
def tCallP (C : Addr) (sp : Sp) (E : XK) (tf : TE) (t : TA) : TE := fun σ H Q => tf σ H fun y H1 => ∃ a, y = V.ref a ∧ t σ H1 fun vs H2 => (∃ dx fs, H2 a = some (.ins C dx fs)) ∧ sp (V.ref a :: vs) H2 Q E
theorem pe_callP (wf : PE X fe tf) (co : CallO X.K C g) (G : FnR X.prog X.w X.K X.mg X.base CX k g sp) (room : Room k X.A) (pa : Passes CX X E) (args : PA X (e :: es) t)
    (h1 : eval (.Call fe (e :: es) [] pos) X.env = (do callWith pos (← eval fe X.env) [] (backTo pos (starEach (e :: es) X.env)) (backToKw pos (keywordEach [] X.env))) := by rfl)
    (h2 : starEach (e :: es) X.env = (false, eval e X.env) :: starEach es X.env := by rfl) (h3 : (backTo pos (starEach es X.env)).any (·.1) = false := by rfl) : PE X (.Call fe (e :: es) [] pos) (tCallP C sp E tf t) := by
  constructor
  intro pn s0 τ G0 R J0 w0
  refine Call_ (thn (wf.run pn s0 τ G0 _ J0 w0) fun o s1 ⟨y, G1, J1, ro, b, eb, w1⟩ => ?_) h1
  subst eb
  have eo : o = Value.ref b := ro
  subst eo
  refine callO_with (thn (args.run pos pn s1 τ G1 _ J1 w1) fun os s2 ⟨ws, G2, J2, rs, ⟨dx, fs, at2⟩, w2⟩ => ?_) h2 h3
  have isC : InsC X G2 b C := .inr ⟨dx, fs, at2⟩
  obtain ⟨ox, od, inst, plain⟩ := insC_at J2 isC
  exact ⟨⟨C, ox, od, inst, plain⟩, run_callO co G room pa J2 isC rs w2⟩
variable {f : Addr} {fd : FuncData} {ps ks : List Str} {kws : List Keyword} {tk : TA} {gg : List Value → List Value → List Value} {gV : List V → List V → List V}
def tCallPK (C : Addr) (sp : Sp) (gV : List V → List V → List V) (E : XK) (tf : TE) (tk : TA) : TE := fun σ H Q => tf σ H fun y H1 => ∃ a, y = V.ref a ∧ tk σ H1 fun zs H2 => (∃ dx fs, H2 a = some (.ins C dx fs)) ∧ sp (gV [V.ref a] zs) H2 Q E
theorem pe_callPK (wf : PE X fe tf) (co : CallO X.K C f) (G : FnOk X.prog X.w X.K X.mg X.base CX k f fd ps sp) (room : Room k X.A) (kb : KBinds X.K fd ps ks gg gV) (pa : Passes CX X E) (args : PK X kws tk)
    (h1 : eval (.Call fe [] kws pos) X.env = (do callWith pos (← eval fe X.env) [] (backTo pos (starEach [] X.env)) (backToKw pos (keywordEach kws X.env))) := by rfl)
    (h2 : (backToKw pos (keywordEach kws X.env)).all (·.1.isSome) = true := by rfl) (h3 : (backToKw pos (keywordEach kws X.env)).filterMap (·.1) = ks := by rfl)
    (h4 : ((backTo pos (starEach [] X.env)).any (·.1) || (backToKw pos (keywordEach kws X.env)).any (·.1.isNone)) = false := by rfl) :
    PE X (.Call fe [] kws pos) (tCallPK C sp gV E tf tk) := by
  constructor
  intro pn s0 τ G0 R J0 w0
  rw [h1]
  refine wpAny_bind (thn (wf.run pn s0 τ G0 _ J0 w0) fun o s1 ⟨y, G1, J1, ro, b, eb, w1⟩ => ?_)
  subst eb
  have eo : o = Value.ref b := ro
  subst eo
  refine callO_ofK h4 (PyProof.Rows.evalArgs_kw2_nil h2 (thn (args.run pos pn s1 τ G1 _ J1 w1) fun os s2 ⟨ws, G2, J2, rs, ⟨dx, fs, at2⟩, w2⟩ => ?_))
  have isC : InsC X G2 b C := .inr ⟨dx, fs, at2⟩
  obtain ⟨ox, od, inst, plain⟩ := insC_at J2 isC
  refine ⟨⟨C, ox, od, inst, plain⟩, ?_⟩
  rw [h3]
  refine wpAny_call (PySem.W.kco_code J2.kIn inst plain co.at_ co.fn co.fi ?_)
  have rel2 := kb.rel (vs := [V.ref b]) (us := [Value.ref b]) (.cons rfl .nil) rs
  have hl : (gg [Value.ref b] os).length = ps.length := by rw [← rel2.length]; exact G.len _ _ _ _ w2
  refine codeAny_mono (G.run X.A X.stack s2 G2 ⟨[.ref b], ks.zip os⟩ (gg [.ref b] os) (gV [.ref b] ws) R E room J2.env0 (kb.to s2 [.ref b] os J2.kIn hl) rel2 w2) fun r s' hq => ?_
  cases r with
  | error er => exact pa pn τ G2 s2 er s' J2 hq
  | ok fl =>
    cases fl with
    | ret u => exact J2.after hq
    | next => exact False.elim hq
    | brk => exact False.elim hq
    | cont => exact False.elim hq
end
/-! ### constants -/
theorem far_big {z : Nat} (h : z < 10 ^ 294) : (z : Int) ≤ big := by
  have h1 : ((10 ^ 294 : Nat) : Int) ≤ big := by decide +kernel
  have h2 : ((z : Nat) : Int) < ((10 ^ 294 : Nat) : Int) := Int.ofNat_lt.2 h
  omega
theorem Sh.mono {n m : Nat} {d : PyData} (h : Sh n d) (hm : n ≤ m) : Sh m d := ⟨h.1, Nat.le_trans h.2 hm⟩
theorem sh_shown (R : Rule) : Sh 5 (shownD R) := sh_lst fun d hd => by
  simp only [List.mem_cons, List.not_mem_nil, or_false] at hd
  rcases hd with rfl | rfl | rfl | rfl
  · exact sh_int _ _
  · exact (sh_basis R).mono (by decide)
  · exact sh_rows R
  · exact (sh_firsts R).mono (by decide)
theorem scConstRight : FnScope ["_law_purse_here", "_law_size", "_law_f", "_law_due", "_law_at"] ["_law_purse_here"] (defScope sConstRight) := ⟨rfl, rfl, rfl, by decide +kernel, rfl, by decide +kernel, by decide +kernel⟩
def spConstRight : Sp := fun vs H Q _ => ∃ (p : Addr) (lo hi : Nat), vs = [.ref p] ∧ Purse H p lo hi ∧ hi ≤ 500 ∧ ∀ H', Kept p H H' → Purse H' p (lo + 1) (hi + 100) → Q (.bl true) H'
/-- one thing by its place, one by its name -/
def kN {α : Type} (us ws : List α) : List α := match us, ws with
  | [a], [b] => [a, b]
  | _, _ => []
structure NmL (mg : Str → Option Value) (CH : Addr) : Prop where
  all : mg "all" = none
  halved : mg "Halved" = some (.ref CH)
/-- the functions of the class, as the law calls them -/
structure CallF (P : Program) (w : World) (K : PySem.W.Frag) (mg : Str → Option Value) (base : Heap) (CL CH g gE : Addr) (fd fdE : FuncData) : Prop where
  co : CallO K CH g
  ok : FnOk P w K mg base CX0 5 g fd ["self", "n"] (spCall K CL CH)
  b : Binds K fd ["self", "n"] []
  kb : KBinds K fd ["self", "n"] ["n"] kN kN
  okE : FnOk P w K mg base CX0 3 gE fdE ["self", "other"] (spEq (SameRule K CL CH))
  eF : PySem.W.findIn K (.ref CH) "__eq__" = some (some (.ref gE))
  eI : PySem.W.isFn K (.ref gE) = true
  eB : Binds K fdE ["self", "other"] []
section
variable {P : Program} {w : World} {K : PySem.W.Frag} {mg : Str → Option Value} {base : Heap}
theorem ok_constRight {CL CH f fD fO fR fS fI fC g gE : Addr} {fd fdD fdO fdR fdS fdI fdC fdg fdE : FuncData} (F : Fun K "_law_constant_right" "_law_constant_right" sConstRight f fd) (B : Nm7 mg) (BC : NmC mg) (BL : NmL mg CH) (T : HalvedC K CH)
    (FD : Fn' P w K mg base 1 "_law_draw" fD fdD ["_law_purse_here", "_law_many"] spDrawP) (FO : Fn' P w K mg base 2 "_law_of" fO fdO ["_law_purse_here", "_law_things"] (spOf K)) (FR : Fn' P w K mg base 3 "_law_far" fR fdR ["_law_purse_here"] spLFar)
    (FS : Fn' P w K mg base 3 "_law_shown" fS fdS ["_law_f"] (spShown K CL CH)) (FI : Fn' P w K mg base 1 "_law_is" fI fdI ["_law_thing", "_law_due"] spIs) (FC : Fn' P w K mg base 4 "constant" fC fdC ["c"] (spConstant K CL CH)) (kC : KBinds K fdC ["c"] ["c"] (fun us ws => us ++ ws) (fun vs zs => vs ++ zs))
    (CF : CallF P w K mg base CL CH g gE fdg fdE) : FnOk P w K mg base CX0 6 f fd ["_law_purse_here"] spConstRight := by
  refine F.ok scConstRight (fun vs H Q E h => ?_) (fun cdv A outer s H vs Q E hr h => ?_)
  · obtain ⟨p, lo, hi, rfl, _⟩ := h
    rfl
  · obtain ⟨p, lo, hi, rfl, hp, hhi, k⟩ := h
    have hu := hr.units
    have nd := scConstRight.nd
    refine ⟨_, pss_cons (ps_set (i := 1) nd rfl (Or.inr rfl) (pe_op op_mulX (pe_call FR.ok (by exact hr.mono (by decide)) (by rfl) FR.m FR.k FR.b .nil pass0 (pa_cons (pv 0) pa_nil)) (pe_call FO.ok (by exact hr.mono (by decide)) (by rfl) FO.m FO.k FO.b .nil pass0 (pa_cons (pv 0) (pa_cons (pe_lst (pa_cons pe_int (pa_cons (pe_un un_neg pe_int) pa_nil))) pa_nil)))))
      (pss_cons (ps_set (i := 1) nd rfl (Or.inr rfl) (pe_call FO.ok (by exact hr.mono (by decide)) (by rfl) FO.m FO.k FO.b .nil pass0 (pa_cons (pv 0) (pa_cons (pe_lst (pa_cons (pv 1) (pa_cons (pe_op op_sub (pe_call FD.ok (by exact hr.mono (by decide)) (by rfl) FD.m FD.k FD.b .nil pass0 (pa_cons (pv 0) (pa_cons pe_int pa_nil))) pe_int) pa_nil))) pa_nil))))
      (pss_cons (ps_asg (pe_tup (pa_cons (pe_call FC.ok (by exact hr.mono (by decide)) (by rfl) FC.m FC.k FC.b .nil pass0 (pa_cons (pv 1) pa_nil)) (pa_cons (pe_lst (pa_cons pe_int (pa_cons (pe_tup pa_nil) (pa_cons (pe_tup pa_nil) (pa_cons (pe_tup pa_nil) pa_nil))))) pa_nil))) (pg_tup rfl (pgs_cons (pg_name (i := 2) nd rfl (Or.inr rfl)) (pgs_cons (pg_name (i := 3) nd rfl (Or.inl rfl)) pgs_nil))))
      (C8.pss_cut (ps_if (pt_cmpR op_ne (pv 1) pe_int (nomark _)) (pss_one (ps_set (i := 3) nd rfl (Or.inl rfl) (pe_lst (pa_cons pe_int (pa_cons (pe_tup (pa_cons (pe_tup (pa_cons pe_int (pa_cons pe_int pa_nil))) pa_nil)) (pa_cons (pe_tup (pa_cons (pe_tup (pa_cons (pe_tup (pa_cons (pe_tup (pa_cons pe_int (pa_cons pe_int pa_nil))) pa_nil)) (pa_cons (pe_tup (pa_cons (pe_tup (pa_cons pe_int (pa_cons pe_int pa_nil))) pa_nil)) pa_nil))) pa_nil)) (pa_cons (pe_tup (pa_cons (pv 1) pa_nil)) pa_nil))))))) pss_nil)
      (pss_cons (ps_if (PW.pt (pw_or (pt_not (pt_val (pe_callB call_isi (by rfl) BC.isinst (by decide +kernel) (pa_cons (pv 2) (pa_cons (pe_glob (v := .ref CH) (by rfl) BL.halved rfl) pa_nil))))) (pw_or (pt_cmpR (op_neD hu) (pe_call FS.ok (by exact hr.mono (by decide)) (by rfl) FS.m FS.k FS.b .nil pass0 (pa_cons (pv 2) pa_nil)) (pv 3) (nomark _))
          (pw_or1 (pt_not (pt_cmpR (op_eqG (rcG_ins CF.okE CF.eF CF.eI CF.eB pass0) (by exact hr.mono (by decide))) (pv 2) (pe_callK0 FC.ok (by exact hr.mono (by decide)) (by rfl) FC.m FC.k kC pass0 (pk_cons (pv 1) pk_nil)) (nomark _))))))) (pss_one (ps_ret pe_bl)) pss_nil)
      (pss_one (ps_ret (pe_callB (cr_all rfl) (by rfl) BL.all (by decide +kernel) (pa_cons (pe_lc (own := [("_law_at", 4)]) (g := gName 4) (tt := tYes) rfl nd (pi_list (pe_lst (pa_cons pe_int (pa_cons pe_int (pa_cons pe_int (pa_cons pe_int (pa_cons (pe_call FR.ok (by exact hr.mono (by decide)) (by rfl) FR.m FR.k FR.b .nil pass0 (pa_cons (pv 0) pa_nil)) pa_nil))))))) (blkOk_by (N := ["_law_purse_here", "_law_size", "_law_f", "_law_due", "_law_at"]) (sc := defScope sConstRight) (by decide +kernel))
        (fun _ _ _ _ _ => pg_name (i := 4) nd rfl (Or.inl rfl) (Or.inr rfl)) (fun _ _ _ _ _ => pts_nil)
        (fun _ _ _ _ _ => pe_call FI.ok (by exact hr.mono (by decide)) (by rfl) FI.m FI.k FI.b .nil pass0 (pa_cons (pe_callP (pv 2) CF.co (CF.ok.raw CF.b .nil) (by exact hr) pass0 (pa_cons (pv 4) pa_nil)) (pa_cons (pv 1) pa_nil)))) pa_nil)))))))), ?_⟩
    refine ⟨_, rfl, p, lo, hi, rfl, hp, by omega, fun z H1 hz k1 p1 => ?_⟩
    refine ⟨_, rfl, (1 : Int), rfl, by show 2 ≤ sizeLine; decide, fun t nt => ?_⟩
    have s1 := same_new (o := .lst [.int 1, .int (-1)]) nt
    have ht : (upd H1 t (.lst [.int 1, .int (-1)])) t = some (.lst [.int 1, .int (-1)]) := upd_same
    have p2 := p1.same s1
    have k2 := k1.trans (Same.kept s1)
    generalize (upd H1 t (.lst [.int 1, .int (-1)])) = H2 at *
    refine ⟨p, t, lo + 1, hi + 43, [.int 1, .int (-1)], rfl, p2, by omega, ht, p2.ne ht (by decide), by decide, by decide, fun d hd H3 k3 p3 => ?_⟩
    obtain ⟨sg, esg, hsg⟩ : ∃ sg : Int, [V.int 1, V.int (-1)][d] = V.int sg ∧ sg.natAbs = 1 := by
      have hd : d < 2 := hd
      rcases d with _ | _ | d
      · exact ⟨1, rfl, rfl⟩
      · exact ⟨-1, rfl, rfl⟩
      · omega
    rw [esg]
    have hz1000 : z < 2 ^ 1000 := Nat.lt_trans hz ten_294
    have hcm : CMulX (z : Int) sg := by
      have h1 := bitsL_lt hz1000
      have h2 : (Builtin.Int.intBits sg : Int) ≤ 1 := by
        rcases Int.natAbs_eq sg with h | h <;> (rw [h, hsg]; decide)
      show ((Builtin.Int.intBits (z : Int) : Nat) : Int) + ((Builtin.Int.intBits sg : Nat) : Int) ≤ 134217728
      omega
    refine ⟨_, _, rfl, rfl, hcm, ?_⟩
    have k13 := k2.trans k3
    refine ⟨_, rfl, _, rfl, _, rfl, p, lo + 1 + 1, hi + 43 + 1, 9, rfl, p3, by omega, by decide, by decide, fun d' H4 d0 d1 k4 p4 => ?_⟩
    refine ⟨_, _, rfl, rfl, by show 2 ≤ sizeLine; decide, fun t2 nt2 => ?_⟩
    have s4 := same_new (o := .lst [V.int ((z : Int) * sg), V.int (d' - 4)]) nt2
    have ht2 : (upd H4 t2 (.lst [V.int ((z : Int) * sg), V.int (d' - 4)])) t2 = some (.lst [V.int ((z : Int) * sg), V.int (d' - 4)]) := upd_same
    have p5 := p4.same s4
    have k5 := (k13.trans k4).trans (Same.kept s4)
    refine ⟨p, t2, lo + 1 + 1 + 1, hi + 43 + 1 + 1, [V.int ((z : Int) * sg), V.int (d' - 4)], rfl, p5, by omega, ht2, p5.ne ht2 (by show 2 ≠ 3; decide), by show 0 < 2; decide, by show 2 ≤ 100; decide, fun dd hdd H6 k6 p6 => ?_⟩
    obtain ⟨c, ec, hc⟩ : ∃ c : Int, [V.int ((z : Int) * sg), V.int (d' - 4)][dd] = V.int c ∧ c.natAbs < 2 ^ 1000 := by
      have hdd : dd < 2 := hdd
      rcases dd with _ | _ | dd
      · exact ⟨_, rfl, by rw [Int.natAbs_mul, hsg, Nat.mul_one]; exact hz1000⟩
      · refine ⟨_, rfl, ?_⟩
        have h8 : (d' - 4).natAbs < 2 ^ 4 := by
          have e16 : (2 : Nat) ^ 4 = 16 := rfl
          rw [e16]; omega
        exact Nat.lt_of_lt_of_le h8 (Nat.pow_le_pow_right (by decide) (by decide))
      · omega
    rw [ec]
    have k06 := k5.trans k6
    generalize (upd H4 t2 (.lst [V.int ((z : Int) * sg), V.int (d' - 4)])) = H5 at *
    clear ec hsg esg hcm hd hdd d0 d1 p1 p2 p3 p4 p5 k1 k2 k3 k4 k5 k6 s1 s4 ht ht2 k13 hz1000 hz
    -- the function
    refine ⟨_, rfl, c, rfl, fun H7 a s7 hF => ?_⟩
    have p7 := p6.same s7
    have k07 := k06.trans (Same.kept s7)
    refine ⟨by show 0 ≤ sizeLine; decide, fun t1 nt1 => ⟨by show 0 ≤ sizeLine; decide, fun t2 nt2 => ⟨by show 0 ≤ sizeLine; decide, fun t3 nt3 => ⟨by show 4 ≤ sizeLine; decide, fun du ndu => ⟨by show 2 ≤ sizeLine; decide, fun T0 nT0 => ?_⟩⟩⟩⟩⟩
    have e1 := same_new (o := .tup []) nt1
    have e2 := same_new (o := .tup []) nt2
    have e3 := same_new (o := .tup []) nt3
    have e4 := same_new (o := .lst [.int 0, .ref t1, .ref t2, .ref t3]) ndu
    have e5 := same_new (o := .tup [.ref a, .ref du]) nT0
    have g1 := e5 _ _ (e4 _ _ (e3 _ _ (e2 _ _ (show (upd H7 t1 (.tup [])) t1 = some (.tup []) from upd_same))))
    have g2 := e5 _ _ (e4 _ _ (e3 _ _ (show (upd (upd H7 t1 (.tup [])) t2 (.tup [])) t2 = some (.tup []) from upd_same)))
    have g3 := e5 _ _ (e4 _ _ (show (upd (upd (upd H7 t1 (.tup [])) t2 (.tup [])) t3 (.tup [])) t3 = some (.tup []) from upd_same))
    have g4 := e5 _ _ (show (upd (upd (upd (upd H7 t1 (.tup [])) t2 (.tup [])) t3 (.tup [])) du (.lst [.int 0, .ref t1, .ref t2, .ref t3])) du = some (.lst [.int 0, .ref t1, .ref t2, .ref t3]) from upd_same)
    have g5 : (upd (upd (upd (upd (upd H7 t1 (.tup [])) t2 (.tup [])) t3 (.tup [])) du (.lst [.int 0, .ref t1, .ref t2, .ref t3])) T0 (.tup [.ref a, .ref du])) T0 = some (.tup [.ref a, .ref du]) := upd_same
    have s8 := (((e1.trans e2).trans e3).trans e4).trans e5
    generalize (upd (upd (upd (upd (upd H7 t1 (.tup [])) t2 (.tup [])) t3 (.tup [])) du (.lst [.int 0, .ref t1, .ref t2, .ref t3])) T0 (.tup [.ref a, .ref du])) = H8 at *
    clear e1 e2 e3 e4 e5 nt1 nt2 nt3 ndu nT0
    refine ⟨T0, _, rfl, SqT.of g5, rfl, _, _, rfl, _, _, rfl, rfl, ?_⟩
    have hF8 := hF.same s8
    have p8 := p7.same s8
    have k08 := k07.trans (Same.kept s8)
    refine ⟨fun σ' H' => ∃ du', σ' = [some (.ref p), some (.int c), some (.ref a), some (.ref du'), none] ∧ Same H8 H' ∧ Dp K H' (.ref du') (shownD (constR c)), ?_, ?_⟩
    · refine ⟨_, rfl, rfl, _, rfl, ?_⟩
      by_cases h0 : c = 0
      · have e : (!decide (V.int c = V.int 0)) = false := by simp [h0]
        rw [e]
        refine iteF ⟨du, rfl, fun _ _ h => h, ?_⟩
        have : constR c = ⟨[], [], []⟩ := if_pos h0
        rw [this]
        exact .lst (SqL.of g4) (.cons (.int _) (.cons (.tup (SqT.of g1) .nil) (.cons (.tup (SqT.of g2) .nil) (.cons (.tup (SqT.of g3) .nil) .nil))))
      · have e : (!decide (V.int c = V.int 0)) = true := by simp [h0]
        rw [e]
        refine iteT ?_
        refine ⟨by show 2 ≤ sizeLine; decide, fun x1 n1 => ⟨by show 1 ≤ sizeLine; decide, fun x2 n2 => ?_⟩⟩
        have a1 := same_new (o := .tup [.int 0, .int 0]) n1
        have a2 := same_new (o := .tup [.ref x1]) n2
        have d2 : Dp K (upd (upd H8 x1 (.tup [.int 0, .int 0])) x2 (.tup [.ref x1])) (.ref x2) (basisD (ruleB [(0, 0)] ⟨[[(0, 1)]], [[(0, 1)]], [c]⟩)) := .tup (SqT.of upd_same) (.cons (.tup (SqT.of (a2 _ _ upd_same)) (.cons (.int _) (.cons (.int _) .nil))) .nil)
        have sA := a1.trans a2
        generalize (upd (upd H8 x1 (.tup [.int 0, .int 0])) x2 (.tup [.ref x1])) = HA at *
        clear a1 a2 n1 n2
        refine ⟨by show 2 ≤ sizeLine; decide, fun x3 n3 => ⟨by show 1 ≤ sizeLine; decide, fun x4 n4 => ?_⟩⟩
        have a1 := same_new (o := .tup [.int 1, .int 1]) n3
        have a2 := same_new (o := .tup [.ref x3]) n4
        have d4 : Dp K (upd (upd HA x3 (.tup [.int 1, .int 1])) x4 (.tup [.ref x3])) (.ref x4) (.tuple ([((1 : Int), (1 : Int))].map pairD)) := .tup (SqT.of upd_same) (.cons (.tup (SqT.of (a2 _ _ upd_same)) (.cons (.int _) (.cons (.int _) .nil))) .nil)
        have sB := a1.trans a2
        generalize (upd (upd HA x3 (.tup [.int 1, .int 1])) x4 (.tup [.ref x3])) = HB at *
        clear a1 a2 n3 n4
        refine ⟨by show 2 ≤ sizeLine; decide, fun x5 n5 => ⟨by show 1 ≤ sizeLine; decide, fun x6 n6 => ?_⟩⟩
        have a1 := same_new (o := .tup [.int 1, .int 1]) n5
        have a2 := same_new (o := .tup [.ref x5]) n6
        have d6 : Dp K (upd (upd HB x5 (.tup [.int 1, .int 1])) x6 (.tup [.ref x5])) (.ref x6) (.tuple ([((1 : Int), (1 : Int))].map pairD)) := .tup (SqT.of upd_same) (.cons (.tup (SqT.of (a2 _ _ upd_same)) (.cons (.int _) (.cons (.int _) .nil))) .nil)
        have sC := a1.trans a2
        generalize (upd (upd HB x5 (.tup [.int 1, .int 1])) x6 (.tup [.ref x5])) = HC at *
        clear a1 a2 n5 n6
        refine ⟨by show 2 ≤ sizeLine; decide, fun x7 n7 => ⟨by show 1 ≤ sizeLine; decide, fun x8 n8 => ?_⟩⟩
        have a1 := same_new (o := .tup [.ref x4, .ref x6]) n7
        have a2 := same_new (o := .tup [.ref x7]) n8
        have d8 : Dp K (upd (upd HC x7 (.tup [.ref x4, .ref x6])) x8 (.tup [.ref x7])) (.ref x8) (rowsD (ruleB [(0, 0)] ⟨[[(0, 1)]], [[(0, 1)]], [c]⟩)) := .tup (SqT.of upd_same) (.cons (.tup (SqT.of (a2 _ _ upd_same)) (.cons (dp_same (a1.trans a2) (dp_same sC d4)) (.cons (dp_same (a1.trans a2) d6) .nil))) .nil)
        have sD := a1.trans a2
        generalize (upd (upd HC x7 (.tup [.ref x4, .ref x6])) x8 (.tup [.ref x7])) = HD at *
        clear a1 a2 n7 n8
        refine ⟨_, rfl, by show 1 ≤ sizeLine; decide, fun x9 n9 => ⟨by show 4 ≤ sizeLine; decide, fun du' ndu' => ?_⟩⟩
        have a1 := same_new (o := .tup [.int c]) n9
        have a2 := same_new (o := .lst [.int 1, .ref x2, .ref x8, .ref x9]) ndu'
        refine ⟨du', rfl, ((((sA.trans sB).trans sC).trans sD).trans a1).trans a2, ?_⟩
        have : constR c = ruleB [(0, 0)] ⟨[[(0, 1)]], [[(0, 1)]], [c]⟩ := if_neg h0
        rw [this]
        exact .lst (SqL.of upd_same) (.cons (.int _) (.cons (dp_same (((sB.trans sC).trans sD).trans (a1.trans a2)) d2) (.cons (dp_same (a1.trans a2) d8) (.cons (.tup (SqT.of (a2 _ _ upd_same)) (.cons (.int _) .nil)) .nil))))
    · rintro σ' H9 ⟨du', rfl, s9, hdu⟩
      have hF9 := hF8.same s9
      have p9 := p8.same s9
      have k09 := k08.trans (Same.kept s9)
      obtain ⟨dx, l, m, bb, e, f1, i1, i2, i3, i4, i5, i6⟩ := hF9.ex
      refine ⟨_, rfl, _, _, .ref CH, .ref CH, true, rfl, .own _, .base (.ins i1 T.cl T.ha T.hn T.ht T.hm), T.hk, _, rfl, iteF ?_⟩
      refine ⟨_, rfl, a, _, _, _, rfl, hF9, fun H10 q s10 nq dq => ⟨_, rfl, _, _, dq, dp_same s10 hdu, (sh_shown _).shaped (by decide), (sh_shown _).shaped (by decide), _, rfl, ?_⟩⟩
      rw [SeqAt.eqv_refl _ (sh_shown _).1]
      refine iteF ?_
      have hF10 := hF9.same s10
      refine ⟨_, rfl, _, rfl, c, rfl, fun H11 b2 s11 hG => ?_⟩
      have hF11 := hF10.same s11
      obtain ⟨dx', l', m', bb', e', f1', j1, j2⟩ := hG.ex
      refine ⟨⟨a, b2, dx, dx', _, _, rfl, rfl, s11 _ _ (s10 _ _ i1), j1, ⟨_, _, _, _, _, hF11, hG⟩⟩, fun H12 x12 => ⟨_, rfl, iteF ?_⟩⟩
      have s12 : Same H11 H12 := x12
      have s912 := (s10.trans s11).trans s12
      have p12 := p9.same s912
      have hF12 := hF9.same s912
      have k12 := k09.trans (Same.kept s912)
      refine ⟨_, rfl, p, _, _, rfl, p12, by omega, fun z H13 hz k13 p13 => ?_⟩
      have hF13 := hF12.kept p12 k13 (fun m f c' _ zz => by
        unfold constL at zz
        split at zz <;> cases zz)
      have k013 := k12.trans k13
      refine ⟨by show 5 ≤ sizeLine; decide, fun l2 nl2 => ?_⟩
      have s14 := same_new (o := .lst [.int 0, .int 1, .int 2, .int 63, .int (z : Int)]) nl2
      have hl2 : (upd H13 l2 (.lst [.int 0, .int 1, .int 2, .int 63, .int (z : Int)])) l2 = some (.lst [.int 0, .int 1, .int 2, .int 63, .int (z : Int)]) := upd_same
      have hF14 := hF13.same s14
      have p14 := p13.same s14
      have k014 := k013.trans (Same.kept s14)
      generalize (upd H13 l2 (.lst [.int 0, .int 1, .int 2, .int 63, .int (z : Int)])) = H14 at *
      refine ⟨l2, rfl, ⟨_, SqL.of hl2⟩, fun D nD => ?_⟩
      have vals : ∀ (i : Nat) (x : V), [V.int 0, V.int 1, V.int 2, V.int 63, V.int (z : Int)][i]? = some x → ∃ n : Nat, x = V.int (n : Int) ∧ (n : Int) ≤ big := fun i x hx => by
        rcases i with _ | _ | _ | _ | _ | i
        · injection hx with hx; exact ⟨0, hx.symm, by decide +kernel⟩
        · injection hx with hx; exact ⟨1, hx.symm, by decide +kernel⟩
        · injection hx with hx; exact ⟨2, hx.symm, by decide +kernel⟩
        · injection hx with hx; exact ⟨63, hx.symm, by decide +kernel⟩
        · injection hx with hx; exact ⟨z, hx.symm, far_big hz⟩
        · cases hx
      refine lc_out (walk_list (xs := [V.int 0, V.int 1, V.int 2, V.int 63, V.int (z : Int)])) (fun i Hc => Same H14 Hc ∧ Hc D = some (.lst ((List.replicate i true).map V.bl))) ⟨same_new nD, upd_same⟩ (fun i Hc _ hP => SqL.of (hP.1 _ _ hl2)) ?_ ?_
      · rintro i x Hc H' hi ⟨hs, hD⟩ ⟨rfl, hx⟩
        have hi5 : i < 5 := hi
        obtain ⟨n, rfl, hn⟩ := vals i x hx
        refine ⟨rfl, ?_⟩
        have hFc := hF14.same hs
        obtain ⟨dx2, l', m', bb', e', f1', j1, j2⟩ := hFc.ex
        refine ⟨_, rfl, a, rfl, _, rfl, ⟨dx2, _, j1⟩, a, _, _, _, n, 1, 1000, 1, rfl, hFc, wb_const c hc, rin_const c, hn, fun H15 s15 => ?_⟩
        rw [value_const]
        refine ⟨_, rfl, c, c, rfl, ?_⟩
        have hD15 := s15 _ _ hD
        rw [decide_eq_true (rfl : c = c)]
        refine ⟨_, hD15, small1000 (by simp; omega), fun b o e => ?_, ?_⟩
        · rw [upd_ne (by intro z; rw [z, nD] at e; cases e)]; exact s15 _ _ (hs _ _ e)
        · rw [upd_same, List.replicate_succ', List.map_append]; rfl
      · rintro Hc ⟨hs, hD⟩
        refine ⟨D, List.replicate 5 true, rfl, SqL.of hD, ?_⟩
        exact k Hc (k014.trans (Same.kept hs)) ((p14.same hs).wide (by omega) (by omega))
end
end L2.EH
end S_L24
section S_L25
set_option exponentiation.threshold 2000
set_option maxRecDepth 100000
set_option maxHeartbeats 4000000
namespace L2.EH
open PySem PySem.Spec PyProof.Rows StX
open L2.Halves (WLines Rule vat sumOf)
/-! ### singles, by the law -/
def CPowW (i j : Int) : Prop := 0 ≤ j ∧ (Builtin.Int.intBits i : Int) * j ≤ 2 ^ 27
def rPowW : R2 := fun x y H Q => ∃ i j z : Int, x = .int i ∧ y = .int j ∧ CPowW i j ∧ z = i ^ j.toNat ∧ Q (.int z) H
theorem op_powW {X : Cx} : OpR X (binaryOp .Pow) rPowW := by
  intro pins s σ H x y v u Q I rx ry h
  obtain ⟨i, j, z, rfl, rfl, hc, rfl, q⟩ := h
  obtain ⟨t, rfl⟩ := rx
  obtain ⟨t', rfl⟩ := ry
  exact pow_int hc.1 hc.2 ⟨.int (i ^ j.toNat), H, I.tok _, ⟨_, rfl⟩, q⟩
theorem big_bits : (Builtin.Int.intBits ((10 : Int) ^ (60 : Int).toNat) : Int) * 5 ≤ 2 ^ 27 := by decide +kernel
theorem ten_bits : (Builtin.Int.intBits (10 : Int) : Int) * 60 ≤ 2 ^ 27 := by decide +kernel
theorem big_ok : ∃ (m L : Int), m = (10 : Int) ^ (60 : Int).toNat ∧ L = m ^ (5 : Int).toNat ∧ (Builtin.Int.intBits m : Int) * 5 ≤ 2 ^ 27 ∧ L = big := ⟨_, _, rfl, rfl, big_bits, rfl⟩
theorem passX0 {X : Cx} {P : Program} {w : World} : Passes (L2.CX P w) X E0 := fun _ _ _ _ _ _ _ h => by
  obtain ⟨_, _, _, _, _, _, _, _, _, _, _, _, z⟩ := h
  exact z.elim
/-- all of them numbers -/
def AllN (S : List V) : Prop := ∀ x, x ∈ S → ∃ m : Nat, x = V.int (m : Int) ∧ (m : Int) ≤ big
theorem big_more : (70000 : Int) ≤ big := by decide +kernel
theorem AllN.nil : AllN [] := fun x hx => by cases hx
theorem AllN.cons {x : V} {S : List V} (h : ∃ m : Nat, x = V.int (m : Int) ∧ (m : Int) ≤ big) (t : AllN S) : AllN (x :: S) := fun y hy => by
  rcases List.mem_cons.1 hy with rfl | h'
  · exact h
  · exact t y h'
theorem AllN.app {S S' : List V} (a : AllN S) (b : AllN S') : AllN (S ++ S') := fun y hy => (List.mem_append.1 hy).elim (a y) (b y)
def bigN : Nat := (10 ^ 60) ^ 5
theorem bigN_eq : ((bigN : Nat) : Int) = big := by decide +kernel
theorem bigN_ge : 2 ^ 15 ≤ bigN := by decide +kernel
theorem far_more {z : Nat} (h : z < 10 ^ 294) : ((z : Nat) : Int) + 40000 ≤ big := by
  have h1 : ((10 ^ 294 : Nat) : Int) + 40000 ≤ big := by decide +kernel
  have h2 : ((z : Nat) : Int) < ((10 ^ 294 : Nat) : Int) := Int.ofNat_lt.2 h
  omega
theorem single_not (n lo : Nat) (hlo : 2 ≤ lo) : ∀ m f c : Int, ((lo + 1 + 1 : Nat) : Int) ≤ c → (singleL n (bitsN n)).starts ≠ [m, f, c] := fun m f c hc z => by
  have h1 : (1 : Int) ∈ [c] := by
    have : (List.replicate (bitsN n) (0 : Int) ++ [1]).getLast? = [m, f, c].getLast? := congrArg List.getLast? z
    rw [List.getLast?_append] at this
    simp at this
    simp [this]
  simp at h1
  omega
theorem scSingleRight : FnScope ["_law_purse_here", "_law_spot", "_law_great", "_law_f", "_law_some", "_law_at"] ["_law_purse_here"] (defScope sSingleRight) := ⟨rfl, rfl, rfl, by decide +kernel, rfl, by decide +kernel, by decide +kernel⟩
def spSingleRight : Sp := fun vs H Q _ => ∃ (p : Addr) (lo hi : Nat), vs = [.ref p] ∧ Purse H p lo hi ∧ hi ≤ 600 ∧ 2 ≤ lo ∧ ∀ H', Kept p H H' → Purse H' p (lo + 1) (hi + 100) → Q (.bl true) H'
section
variable {P : Program} {w : World} {K : PySem.W.Frag} {mg : Str → Option Value} {base : Heap}
theorem ok_singleRight {CL CH CT f fD fO fR fS fI fC fU fM g gE : Addr} {fd fdD fdO fdR fdS fdI fdC fdU fdM fdg fdE : FuncData} (F : Fun K "_law_single_right" "_law_single_right" sSingleRight f fd) (B : Nm7 mg) (BC : NmC mg) (BN : Nb mg) (BL : NmL mg CH) (ml : mg "list" = none) (T : HalvedC K CH)
    (FD : Fn' P w K mg base 1 "_law_draw" fD fdD ["_law_purse_here", "_law_many"] spDrawP) (FO : Fn' P w K mg base 2 "_law_of" fO fdO ["_law_purse_here", "_law_things"] (spOf K)) (FR : Fn' P w K mg base 3 "_law_far" fR fdR ["_law_purse_here"] spLFar)
    (FS : Fn' P w K mg base 3 "_law_shown" fS fdS ["_law_f"] (spShown K CL CH)) (FI : Fn' P w K mg base 1 "_law_is" fI fdI ["_law_thing", "_law_due"] spIs) (FU : Fn' P w K mg base 2 "_law_rule_of_single" fU fdU ["_law_spot"] (spRuleOf K)) (FM : Fn' P w K mg base 5 "_law_too_many" fM fdM ["_law_spot"] spTooMany)
    (FC : FnOk P w K mg base (L2.CX P w) 4 fC fdC ["n"] (spSingle K CL CH CT)) (bC : Binds K fdC ["n"] []) (gC : mg "single" = some (.ref fC)) (kpC : PySem.W.keepIn K (.ref fC) = true) (kC : KBinds K fdC ["n"] ["n"] (fun us ws => us ++ ws) (fun vs zs => vs ++ zs))
    (CF : CallF P w K mg base CL CH g gE fdg fdE) : FnOk P w K mg base CX0 6 f fd ["_law_purse_here"] spSingleRight := by
  refine F.ok scSingleRight (fun vs H Q E h => ?_) (fun cdv A outer s H vs Q E hr h => ?_)
  · obtain ⟨p, lo, hi, rfl, _⟩ := h
    rfl
  · obtain ⟨p, lo, hi, rfl, hp, hhi, hlo, k⟩ := h
    have hu := hr.units
    have nd := scSingleRight.nd
    refine ⟨_, pss_cons (ps_asg (pe_tup (pa_cons (pe_call FD.ok (by exact hr.mono (by decide)) (by rfl) FD.m FD.k FD.b .nil pass0 (pa_cons (pv 0) (pa_cons (pe_call FO.ok (by exact hr.mono (by decide)) (by rfl) FO.m FO.k FO.b .nil pass0 (pa_cons (pv 0) (pa_cons (pe_lst (pa_cons pe_int (pa_cons pe_int (pa_cons pe_int (pa_cons (pe_op op_pow pe_int pe_int) pa_nil))))) pa_nil))) pa_nil))) (pa_cons (pe_op op_powW (pe_op op_powW pe_int pe_int) pe_int) pa_nil))) (pg_tup rfl (pgs_cons (pg_name (i := 1) nd rfl (Or.inr rfl)) (pgs_cons (pg_name (i := 2) nd rfl (Or.inl rfl)) pgs_nil))))
      (pss_cons (ps_set (i := 3) nd rfl (Or.inr rfl) (pe_call FC (by exact hr.mono (by decide)) (by rfl) gC kpC bC .nil passX0 (pa_cons (pv 1) pa_nil)))
      (pss_cons (ps_if (PW.pt (pw_or (pt_not (pt_val (pe_callB call_isi (by rfl) BC.isinst (by decide +kernel) (pa_cons (pv 3) (pa_cons (pe_glob (v := .ref CH) (by rfl) BL.halved rfl) pa_nil))))) (pw_or1 (pt_cmpR (op_neD hu) (pe_call FS.ok (by exact hr.mono (by decide)) (by rfl) FS.m FS.k FS.b .nil pass0 (pa_cons (pv 3) pa_nil)) (pe_call FU.ok (by exact hr.mono (by decide)) (by rfl) FU.m FU.k FU.b .nil pass0 (pa_cons (pv 1) pa_nil)) (nomark _))))) (pss_one (ps_ret pe_bl)) pss_nil)
      (pss_cons (ps_set (i := 4) nd rfl (Or.inl rfl) (pe_op op_cat (pe_listRg rfl (by rfl) ml (prg_1 (by rfl) B.range pe_int)) (pe_lst (pa_cons (pv 1) (pa_cons (pe_op op_add (pv 1) pe_int) (pa_cons (pe_op op_add (pv 1) (pe_op op_pow pe_int pe_int)) (pa_cons (pe_op op_mul pe_int (pv 1)) (pa_cons (pe_op op_add (pe_op op_mul pe_int (pv 1)) pe_int) pa_nil))))))))
      (pss_cons (ps_set (i := 4) nd rfl (Or.inl rfl) (pe_op op_cat (pv 4) (pe_lst (pa_cons (pe_op op_fdiv (pv 1) pe_int) (pa_cons (pv 2) (pa_cons (pe_call FR.ok (by exact hr.mono (by decide)) (by rfl) FR.m FR.k FR.b .nil pass0 (pa_cons (pv 0) pa_nil)) pa_nil))))))
      (pss_cons (ps_if (PW.pt (pw_or (pt_not (pt_cmpR (op_eqG (rcG_ins CF.okE CF.eF CF.eI CF.eB pass0) (by exact hr.mono (by decide))) (pe_callK0 FC (by exact hr.mono (by decide)) (by rfl) gC kpC kC passX0 (pk_cons (pv 1) pk_nil)) (pv 3) (nomark _))) (pw_or1 (pt_not (pt_val (pe_callB (cr_all rfl) (by rfl) BL.all (by decide +kernel) (pa_cons (pe_lc (own := [("_law_at", 5)]) (g := gName 5) (tt := tYes) rfl nd (pi_list (pv 4)) (blkOk_by (N := ["_law_purse_here", "_law_spot", "_law_great", "_law_f", "_law_some", "_law_at"]) (sc := defScope sSingleRight) (by decide +kernel))
          (fun _ _ _ _ _ => pg_name (i := 5) nd rfl (Or.inl rfl) (Or.inr rfl)) (fun _ _ _ _ _ => pts_nil)
          (fun _ _ _ _ _ => pe_call FI.ok (by exact hr.mono (by decide)) (by rfl) FI.m FI.k FI.b .nil pass0 (pa_cons (pe_callP (pv 3) CF.co (CF.ok.raw CF.b .nil) (by exact hr) pass0 (pa_cons (pv 5) pa_nil)) (pa_cons (pe_callTy call_int1 (by rfl) BN.int (by decide +kernel) (pa_cons (pe_cmpR op_eq (pv 5) (pv 1) (nomark _)) pa_nil)) pa_nil)))) pa_nil))))))) (pss_one (ps_ret pe_bl)) pss_nil)
      (pss_cons (ps_set (i := 4) nd rfl (Or.inl rfl) (pe_lst (pa_cons (pe_op op_add (pe_op op_pow pe_int pe_int) (pv 1)) (pa_cons (pe_op op_add (pe_op op_pow pe_int pe_int) (pe_call FR.ok (by exact hr.mono (by decide)) (by rfl) FR.m FR.k FR.b .nil pass0 (pa_cons (pv 0) pa_nil))) (pa_cons (pv 2) (pa_cons (pe_op op_pow pe_int pe_int) pa_nil))))))
      (pss_one (ps_ret (pe_callB (cr_all rfl) (by rfl) BL.all (by decide +kernel) (pa_cons (pe_lc (own := [("_law_at", 5)]) (g := gName 5) (tt := tYes) rfl nd (pi_list (pv 4)) (blkOk_by (N := ["_law_purse_here", "_law_spot", "_law_great", "_law_f", "_law_some", "_law_at"]) (sc := defScope sSingleRight) (by decide +kernel))
          (fun _ _ _ _ _ => pg_name (i := 5) nd rfl (Or.inl rfl) (Or.inr rfl)) (fun _ _ _ _ _ => pts_nil)
          (fun _ _ _ _ _ => pe_call FM.ok (by exact hr) (by rfl) FM.m FM.k FM.b .nil pass0 (pa_cons (pv 5) pa_nil))) pa_nil)))))))))), ?_⟩
    refine ⟨_, rfl, _, rfl, _, _, rfl, rfl, ⟨by decide, by decide, by decide⟩, by show 4 ≤ sizeLine; decide, fun t nt => ?_⟩
    have s1 := same_new (o := .lst [.int 2, .int 9, .int 100, .int ((2 : Int) ^ (15 : Int).toNat)]) nt
    have ht : (upd H t (.lst [.int 2, .int 9, .int 100, .int ((2 : Int) ^ (15 : Int).toNat)])) t = some (.lst [.int 2, .int 9, .int 100, .int ((2 : Int) ^ (15 : Int).toNat)]) := upd_same
    have p1 := hp.same s1
    refine ⟨p, t, lo, hi, [.int 2, .int 9, .int 100, .int ((2 : Int) ^ (15 : Int).toNat)], rfl, p1, by omega, ht, p1.ne ht (by show 4 ≠ 3; decide), by show 0 < 4; decide, by show 4 ≤ 100; decide, fun d hd H2 k2 p2 => ?_⟩
    obtain ⟨mm, em, hm0, hm1⟩ : ∃ mm : Int, [V.int 2, V.int 9, V.int 100, V.int ((2 : Int) ^ (15 : Int).toNat)][d] = V.int mm ∧ 0 < mm ∧ mm ≤ 32768 := by
      have hd : d < 4 := hd
      rcases d with _ | _ | _ | _ | d
      · exact ⟨2, rfl, by decide, by decide⟩
      · exact ⟨9, rfl, by decide, by decide⟩
      · exact ⟨100, rfl, by decide, by decide⟩
      · exact ⟨_, rfl, by decide, by decide⟩
      · omega
    rw [em]
    refine ⟨p, lo + 1, hi + 1, mm, rfl, p2, by omega, hm0, by omega, fun d' H3 d0 d1 k3 p3 => ?_⟩
    obtain ⟨n, rfl⟩ := Int.eq_ofNat_of_zero_le d0
    have hn : n < 2 ^ 15 := by
      have e15 : (2 : Nat) ^ 15 = 32768 := rfl
      rw [e15]; omega
    have k03 := ((Same.kept s1).trans k2).trans k3
    clear em hm0 hm1 d1 hd s1 ht p1 k2 p2 k3 nt d0
    obtain ⟨m60, L, hm60, hL, hbits, hLb⟩ := big_ok
    have hnb : (n : Int) ≤ big := by
      have h1 : ((2 ^ 15 : Nat) : Int) ≤ big := by decide +kernel
      have h2 : (n : Int) < ((2 ^ 15 : Nat) : Int) := Int.ofNat_lt.2 hn
      omega
    refine ⟨_, _, m60, rfl, rfl, ⟨by decide, ten_bits⟩, hm60, _, _, L, rfl, rfl, ⟨by decide, hbits⟩, hL, by show 2 ≤ sizeLine; decide, fun T0 nT0 => ?_⟩
    have s4 := same_new (o := .tup [.int (n : Int), .int L]) nT0
    have hT0 : (upd H3 T0 (.tup [.int (n : Int), .int L])) T0 = some (.tup [.int (n : Int), .int L]) := upd_same
    have p4 := p3.same s4
    have k04 := k03.trans (Same.kept s4)
    generalize (upd H3 T0 (.tup [.int (n : Int), .int L])) = H4 at *
    refine ⟨T0, _, rfl, SqT.of hT0, rfl, _, _, rfl, _, _, rfl, rfl, ?_⟩
    refine ⟨_, rfl, n, rfl, hnb, fun z => absurd z (by omega), fun _ H5 a s5 hF => ?_⟩
    have p5 := p4.same s5
    have k05 := k04.trans (Same.kept s5)
    clear hT0 s4 nT0 k03 k04 p3 p4 hbits hm60 hL
    obtain ⟨dx, l, m, bb, e, f1, i1, i2, i3, i4, i5, i6⟩ := hF.ex
    refine ⟨_, rfl, _, _, .ref CH, .ref CH, true, rfl, .own _, .base (.ins i1 T.cl T.ha T.hn T.ht T.hm), T.hk, _, rfl, iteF ?_⟩
    refine ⟨_, rfl, a, _, _, _, rfl, hF, fun H6 q s6 nq dq => ⟨_, rfl, n, rfl, hn, fun H7 q2 s7 nq2 dq2 => ⟨_, _, dp_same s7 dq, dq2, (sh_shown _).shaped (by decide), (sh_shown _).shaped (by decide), _, rfl, ?_⟩⟩⟩
    have ese : (!(shownD (singleR n (bitsN n))).eqv (shownD (singleR n (bitsN n)))) = false := by rw [SeqAt.eqv_refl _ (sh_shown _).1]; rfl
    rw [ese]
    refine iteF ?_
    have s57 := s6.trans s7
    have hF7 := hF.same s57
    have p7 := p5.same s57
    have k07 := k05.trans (Same.kept s57)
    clear s57 dq dq2 i1 i2 i3 i4 i5 i6 hF p5 k05 s5 s6 s7 nq nq2 ese
    -- the numbers it is asked at
    refine ⟨(9 : Int), rfl, RgOk.of_le (by decide) (by decide) (by decide) (by decide), fun l1 nl1 => ?_⟩
    have s8 := same_new (o := .lst (rgV 0 9)) nl1
    have hl1 : (upd H7 l1 (.lst (rgV 0 9))) l1 = some (.lst (rgV 0 9)) := upd_same
    have hF8 := hF7.same s8
    have p8 := p7.same s8
    have k08 := k07.trans (Same.kept s8)
    generalize (upd H7 l1 (.lst (rgV 0 9))) = H8 at *
    clear s8 hF7 p7 k07 nl1
    refine ⟨_, rfl, _, rfl, _, _, rfl, rfl, _, rfl, _, _, rfl, rfl, ⟨by decide, by decide, by decide⟩, _, _, rfl, rfl, _, rfl, _, _, rfl, rfl, .inl ⟨by decide, by decide⟩, _, rfl, _, _, rfl, rfl, .inl ⟨by decide, by decide⟩, _, _, rfl, rfl, by show 5 ≤ sizeLine; decide, fun l2 nl2 => ?_⟩
    obtain ⟨S5, eS5⟩ : ∃ S5 : List V, S5 = [V.int (n : Int), V.int ((n : Int) + 1), V.int ((n : Int) + (2 : Int) ^ (15 : Int).toNat), V.int (2 * (n : Int)), V.int (2 * (n : Int) + 1)] := ⟨_, rfl⟩
    have s9 := same_new (o := .lst S5) nl2
    have hl2 : (upd H8 l2 (.lst S5)) l2 = some (.lst S5) := upd_same
    have hl1' := s9 _ _ hl1
    have hF9 := hF8.same s9
    have p9 := p8.same s9
    have k09 := k08.trans (Same.kept s9)
    have e9 : (upd H8 l2 (.lst S5)) = (upd H8 l2 (.lst [V.int (n : Int), V.int ((n : Int) + 1), V.int ((n : Int) + (2 : Int) ^ (15 : Int).toNat), V.int (2 * (n : Int)), V.int (2 * (n : Int) + 1)])) := by rw [eS5]
    show ∃ _, _
    simp only [← e9]
    have a5 : AllN S5 := by
      rw [eS5]
      have z15 : ((2 : Int) ^ (15 : Int).toNat) = ((32768 : Nat) : Int) := rfl
      rw [z15]
      refine AllN.cons ⟨n, rfl, by have := big_more; omega⟩ (AllN.cons ⟨n + 1, rfl, by have := big_more; omega⟩ (AllN.cons ⟨n + 32768, rfl, by have := big_more; omega⟩ (AllN.cons ⟨2 * n, rfl, by have := big_more; omega⟩ (AllN.cons ⟨2 * n + 1, rfl, by have := big_more; omega⟩ AllN.nil))))
    have len5 : S5.length = 5 := by rw [eS5]; rfl
    generalize (upd H8 l2 (.lst S5)) = H9 at *
    clear e9 eS5 s9 hl1 hF8 p8 k08 nl2
    refine ⟨_, _, _, _, rfl, rfl, hl1', hl2, by rw [len5]; decide, fun L1 nL1 => ?_⟩
    obtain ⟨S14, eS14⟩ : ∃ S14 : List V, S14 = rgV 0 9 ++ S5 := ⟨_, rfl⟩
    have a14 : AllN S14 := by
      rw [eS14]
      refine AllN.app ?_ a5
      intro x hx
      obtain ⟨j, hj, rfl⟩ := List.mem_map.1 hx
      have hj9 : j < 9 := List.mem_range.1 hj
      exact ⟨j, by show V.int (0 + (j : Int)) = _; rw [Int.zero_add], by have := big_more; omega⟩
    have len14 : S14.length = 14 := by rw [eS14, List.length_append, len5]; rfl
    rw [← eS14]
    have s10 := same_new (o := .lst S14) nL1
    have hL1 : (upd H9 L1 (.lst S14)) L1 = some (.lst S14) := upd_same
    have hF10 := hF9.same s10
    have p10 := p9.same s10
    have k10 := k09.trans (Same.kept s10)
    generalize (upd H9 L1 (.lst S14)) = H10 at *
    clear s10 hF9 p9 k09 nL1 hl1' hl2 eS14 a5 len5
    refine ⟨_, rfl, _, rfl, _, _, rfl, rfl, ⟨by decide, by decide⟩, _, rfl, _, rfl, p, _, _, rfl, p10, by omega, fun z H11 hz k11 p11 => ⟨by show 3 ≤ sizeLine; decide, fun l3 nl3 => ?_⟩⟩
    have hF11 := hF10.kept p10 k11 (single_not n lo hlo)
    have hL1' := k11 _ _ (p10.ne hL1 (by rw [len14]; decide)) hL1
    obtain ⟨S3, eS3⟩ : ∃ S3 : List V, S3 = [V.int ((n : Int) / 2), V.int L, V.int (z : Int)] := ⟨_, rfl⟩
    have a3 : AllN S3 := by
      rw [eS3]
      refine AllN.cons ⟨n / 2, by rw [Int.natCast_ediv]; rfl, by have := big_more; omega⟩ (AllN.cons ⟨bigN, by rw [hLb, bigN_eq], by rw [bigN_eq]; exact Int.le_refl _⟩ (AllN.cons ⟨z, rfl, far_big hz⟩ AllN.nil))
    have len3 : S3.length = 3 := by rw [eS3]; rfl
    have s12 := same_new (o := .lst S3) nl3
    have hl3 : (upd H11 l3 (.lst S3)) l3 = some (.lst S3) := upd_same
    have hL1'' := s12 _ _ hL1'
    have hF12 := hF11.same s12
    have p12 := p11.same s12
    have k12 := (k10.trans k11).trans (Same.kept s12)
    have e12 : (upd H11 l3 (.lst S3)) = (upd H11 l3 (.lst [V.int ((n : Int) / 2), V.int L, V.int (z : Int)])) := by rw [eS3]
    show ∃ _, _
    simp only [← e12]
    generalize (upd H11 l3 (.lst S3)) = H12 at *
    clear s12 hF10 hF11 p10 p11 k10 k11 hL1 hL1' eS3 e12 nl3
    refine ⟨_, _, _, _, rfl, rfl, hL1'', hl3, by rw [len14, len3]; decide, fun L2 nL2 => ?_⟩
    obtain ⟨S, eS⟩ : ∃ S : List V, S = S14 ++ S3 := ⟨_, rfl⟩
    have aS : AllN S := by rw [eS]; exact AllN.app a14 a3
    have lenS : S.length = 17 := by rw [eS, List.length_append, len14, len3]
    rw [← eS]
    have s13 := same_new (o := .lst S) nL2
    have hL2 : (upd H12 L2 (.lst S)) L2 = some (.lst S) := upd_same
    have hF13 := hF12.same s13
    have p13 := p12.same s13
    have k13 := k12.trans (Same.kept s13)
    generalize (upd H12 L2 (.lst S)) = H13 at *
    clear s13 hF12 p12 k12 hL1'' hl3 eS a14 a3 nL2
    -- single(n=spot) == f
    refine ⟨_, rfl, n, rfl, hnb, fun z => absurd z (by omega), fun _ H14 a2 s14 hG => ⟨_, rfl, ?_⟩⟩
    have hF14 := hF13.same s14
    have hL2' := s14 _ _ hL2
    have p14 := p13.same s14
    have k14 := k13.trans (Same.kept s14)
    obtain ⟨dx', l', m', bb', e', f1', j1, j2⟩ := hG.ex
    obtain ⟨dx2, l2', m2', bb2', e2', f2', i1, i2⟩ := hF14.ex
    refine ⟨⟨a2, a, dx', dx2, _, _, rfl, rfl, j1, i1, ⟨_, _, _, _, _, hG, hF14⟩⟩, fun H15 x15 => ⟨_, rfl, iteF ?_⟩⟩
    have s15 : Same H14 H15 := x15
    have hF15 := hF14.same s15
    have hL3 := s15 _ _ hL2'
    have p15 := p14.same s15
    have k15 := k14.trans (Same.kept s15)
    clear s15 x15 hF14 hF13 hL2 hL2' p13 p14 k13 k14 j1 j2 i1 i2 hG s14
    refine ⟨_, rfl, L2, rfl, ⟨_, SqL.of hL3⟩, fun D nD => ?_⟩
    refine lc_out (walk_list (xs := S)) (fun i Hc => Same H15 Hc ∧ Hc D = some (.lst ((List.replicate i true).map V.bl))) ⟨same_new nD, upd_same⟩ (fun i Hc _ hP => SqL.of (hP.1 _ _ hL3)) ?_ ?_
    · rintro i x Hc H' hi ⟨hs, hD⟩ ⟨rfl, hx⟩
      have hi17 : i < 17 := by rw [← lenS]; exact hi
      obtain ⟨m, rfl, hm⟩ := aS x (List.mem_of_getElem? hx)
      refine ⟨rfl, ?_⟩
      have hFc := hF15.same hs
      obtain ⟨dx2, l', m', bb', e', f1', j1, j2⟩ := hFc.ex
      refine ⟨_, rfl, a, rfl, _, rfl, ⟨dx2, _, j1⟩, a, _, _, _, m, 1, 1, 5, rfl, hFc, wb_single n hn, rin_one _ (by simp [singleL]), hm, fun H16 s16 => ?_⟩
      rw [value_single]
      have ev : (if decide (V.int (m : Int) = V.int (n : Int)) = true then (1 : Int) else 0) = if m = n then 1 else 0 := by
        by_cases h : m = n
        · rw [if_pos h, h]; simp
        · rw [if_neg h, decide_eq_false (fun q => h (by injection q with q; omega))]; rfl
      refine ⟨_, rfl, _, rfl, rfl, .inr ⟨_, rfl, _, _, rfl, ?_⟩⟩
      rw [ev]
      have hD16 := s16 _ _ hD
      rw [decide_eq_true (rfl : (if m = n then (1 : Int) else 0) = if m = n then 1 else 0)]
      refine ⟨_, hD16, small1000 (by simp; omega), fun b o e => ?_, ?_⟩
      · rw [upd_ne (by intro z; rw [z, nD] at e; cases e)]; exact s16 _ _ (hs _ _ e)
      · rw [upd_same, List.replicate_succ', List.map_append]; rfl
    · rintro Hc ⟨hs, hD⟩
      refine ⟨D, List.replicate S.length true, rfl, SqL.of hD, _, rfl, ?_⟩
      have eall : (List.replicate S.length true).all id = true := by rw [lenS]; rfl
      rw [eall]
      refine iteF ?_
      have p16 := p15.same hs
      have k16 := k15.trans (Same.kept hs)
      clear hF15 hL3 p15 k15 hD hs eall nD
      refine ⟨_, _, rfl, rfl, ⟨by decide, by decide, by decide⟩, _, rfl, _, _, rfl, rfl, _, _, rfl, rfl, ⟨by decide, by decide, by decide⟩, _, rfl, p, _, _, rfl, p16, by omega, fun z2 H17 hz2 k17 p17 => ?_⟩
      refine ⟨_, _, rfl, rfl, _, rfl, _, _, rfl, rfl, ⟨by decide, by decide, by decide⟩, by show 4 ≤ sizeLine; decide, fun l4 nl4 => ?_⟩
      obtain ⟨S4, eS4⟩ : ∃ S4 : List V, S4 = [V.int ((2 : Int) ^ (15 : Int).toNat + (n : Int)), V.int ((2 : Int) ^ (15 : Int).toNat + (z2 : Int)), V.int L, V.int ((2 : Int) ^ (15 : Int).toNat)] := ⟨_, rfl⟩
      have a4 : ∀ x, x ∈ S4 → ∃ m : Nat, x = V.int (m : Int) ∧ 2 ^ 15 ≤ m ∧ (m : Int) ≤ big := by
        rw [eS4]
        have z15 : ((2 : Int) ^ (15 : Int).toNat) = ((32768 : Nat) : Int) := rfl
        rw [z15]
        intro x hx
        simp only [List.mem_cons, List.not_mem_nil, or_false] at hx
        rcases hx with rfl | rfl | rfl | rfl
        · exact ⟨32768 + n, rfl, by omega, by have := big_more; omega⟩
        · exact ⟨32768 + z2, rfl, by omega, by have := far_more hz2; omega⟩
        · exact ⟨bigN, by rw [hLb, bigN_eq], bigN_ge, by rw [bigN_eq]; exact Int.le_refl _⟩
        · exact ⟨32768, rfl, by decide, by have := big_more; omega⟩
      have len4 : S4.length = 4 := by rw [eS4]; rfl
      have s18 := same_new (o := .lst S4) nl4
      have hl4 : (upd H17 l4 (.lst S4)) l4 = some (.lst S4) := upd_same
      have p18 := p17.same s18
      have k18 := (k16.trans k17).trans (Same.kept s18)
      have e18 : (upd H17 l4 (.lst S4)) = (upd H17 l4 (.lst [V.int ((2 : Int) ^ (15 : Int).toNat + (n : Int)), V.int ((2 : Int) ^ (15 : Int).toNat + (z2 : Int)), V.int L, V.int ((2 : Int) ^ (15 : Int).toNat)])) := by rw [eS4]
      show ∃ _, _
      simp only [← e18]
      generalize (upd H17 l4 (.lst S4)) = H18 at *
      clear e18 s18 p16 p17 k16 k17 eS4 nl4
      refine ⟨_, rfl, l4, rfl, ⟨_, SqL.of hl4⟩, fun D nD => ?_⟩
      refine lc_out (walk_list (xs := S4)) (fun i Hc => Same H18 Hc ∧ Hc D = some (.lst ((List.replicate i true).map V.bl))) ⟨same_new nD, upd_same⟩ (fun i Hc _ hP => SqL.of (hP.1 _ _ hl4)) ?_ ?_
      · rintro i x Hc H' hi ⟨hs, hD⟩ ⟨rfl, hx⟩
        have hi4 : i < 4 := by rw [← len4]; exact hi
        obtain ⟨m, rfl, hm1, hm2⟩ := a4 x (List.mem_of_getElem? hx)
        refine ⟨rfl, ?_⟩
        refine ⟨_, rfl, m, rfl, hm1, hm2, ?_⟩
        refine ⟨_, hD, small1000 (by simp; omega), fun b o e => ?_, ?_⟩
        · rw [upd_ne (by intro z; rw [z, nD] at e; cases e)]; exact hs _ _ e
        · rw [upd_same, List.replicate_succ', List.map_append]; rfl
      · rintro Hc ⟨hs, hD⟩
        refine ⟨D, List.replicate S4.length true, rfl, SqL.of hD, ?_⟩
        have eall : (List.replicate S4.length true).all id = true := by rw [len4]; rfl
        rw [eall]
        exact k Hc (k18.trans (Same.kept hs)) ((p18.same hs).wide (by omega) (by omega))
end
end L2.EH
end S_L25
section S_L26
set_option exponentiation.threshold 2000
set_option maxRecDepth 100000
set_option maxHeartbeats 4000000
namespace L2.EH
open PySem PySem.Spec PyProof.Rows StX
open L2.Halves (WLines Rule vat sumOf numberLines)
/-! ### written data -/
section
variable {X : Cx} {e : Expr} {es : List Expr} {d : PyData} {ds : List PyData} {te te' : TE} {t t' : TA} {pos : Pos}
def tD (K : PySem.W.Frag) (d : PyData) : TE := fun _ H Q => ∀ H' v, Same H H' → Dp K H' v d → Q v H'
def tDs (K : PySem.W.Frag) (ds : List PyData) : TA := fun _ H Q => ∀ H' vs, Same H H' → DpAll K H' vs ds → Q vs H'
theorem pe_imp (h : PE X e te) (i : ∀ σ H Q, te' σ H Q → te σ H Q) : PE X e te' := ⟨fun pins s σ H Q I q => h.run pins s σ H Q I (i σ H Q q)⟩
theorem pa_imp (h : PA X es t) (i : ∀ σ H Q, t' σ H Q → t σ H Q) : PA X es t' := ⟨fun pos pins s σ H Q I q => h.run pos pins s σ H Q I (i σ H Q q)⟩
theorem paD_nil : PA X [] (tDs X.K []) := pa_imp pa_nil fun σ H Q q => q H [] (fun _ _ h => h) .nil
theorem paD_cons (h : PE X e (tD X.K d)) (hs : PA X es (tDs X.K ds)) (st : starEach (e :: es) X.env = (false, eval e X.env) :: starEach es X.env := by rfl) : PA X (e :: es) (tDs X.K (d :: ds)) :=
  pa_imp (pa_cons h hs st) fun σ H Q q H1 v s1 d1 H2 vs s2 d2 => q H2 (v :: vs) (s1.trans s2) (.cons (dp_same s2 d1) d2)
theorem peD_tup {x1 : Nat} (h : PA X es (tDs X.K ds)) (hl : ds.length ≤ 1000) : PE X (.Tuple es x1 pos) (tD X.K (.tuple ds)) :=
  pe_imp (pe_tup h) fun σ H Q q H1 vs s1 d1 => ⟨small1000' (by rw [dpAll_len d1]; exact hl), fun p np => q _ (.ref p) (s1.trans (same_new np)) (.tup (SqT.of upd_same) (dpAll_same (same_new np) d1))⟩
theorem peD_int {i : Int} {j : Nat} : PE X (.Constant (.int i) j pos) (tD X.K (.int i)) := pe_imp pe_int fun σ H Q q => q H (.int i) (fun _ _ h => h) (.int i)
theorem peD_neg {i : Int} {j : Nat} {pos2 : Pos} : PE X (.UnaryOp .USub (.Constant (.int i) j pos) pos2) (tD X.K (.int (-i))) := pe_imp (pe_un un_neg pe_int) fun σ H Q q => ⟨i, rfl, q H (.int (-i)) (fun _ _ h => h) (.int (-i))⟩
theorem peD_pair {i k : Int} {j j2 x1 : Nat} {p1 p2 : Pos} (h1 : starEach [.Constant (.int i) j p1, .Constant (.int k) j2 p2] X.env = (false, eval (.Constant (.int i) j p1) X.env) :: starEach [.Constant (.int k) j2 p2] X.env := by rfl)
    (h2 : starEach [.Constant (.int k) j2 p2] X.env = (false, eval (.Constant (.int k) j2 p2) X.env) :: starEach [] X.env := by rfl) : PE X (.Tuple [.Constant (.int i) j p1, .Constant (.int k) j2 p2] x1 pos) (tD X.K (.tuple [.int i, .int k])) :=
  peD_tup (paD_cons peD_int (paD_cons peD_int paD_nil h2) h1) (by show 2 ≤ 1000; decide)
theorem peD_two {e2 : Expr} {d2 : PyData} {x1 : Nat} (a : PE X e (tD X.K d)) (b : PE X e2 (tD X.K d2)) (h1 : starEach [e, e2] X.env = (false, eval e X.env) :: starEach [e2] X.env := by rfl) (h2 : starEach [e2] X.env = (false, eval e2 X.env) :: starEach [] X.env := by rfl) :
    PE X (.Tuple [e, e2] x1 pos) (tD X.K (.tuple [d, d2])) := peD_tup (paD_cons a (paD_cons b paD_nil h2) h1) (by show 2 ≤ 1000; decide)
end
theorem scRight : FnScope ["_law_purse_here", "_law_f", "_law_pairs", "_law_some", "_law_at"] ["_law_purse_here"] (defScope sRight) := ⟨rfl, rfl, rfl, by decide +kernel, rfl, by decide +kernel, by decide +kernel⟩
def spRight : Sp := fun vs H Q _ => ∃ (p : Addr) (lo hi : Nat), vs = [.ref p] ∧ Purse H p lo hi ∧ hi ≤ 300 ∧ ∀ H', Kept p H H' → Q (.bl true) H'
section
variable {P : Program} {w : World} {K : PySem.W.Frag} {mg : Str → Option Value} {base : Heap}
theorem ok_right {CL CH f fR fS fI fN fA fB g gE : Addr} {fd fdR fdS fdI fdN fdA fdB fdg fdE : FuncData} (F : Fun K "_law_right" "_law_right" sRight f fd) (B : Nm7 mg) (BC : NmC mg) (BL : NmL mg CH) (T : HalvedC K CH)
    (FR : Fn' P w K mg base 3 "_law_far" fR fdR ["_law_purse_here"] spLFar) (FS : Fn' P w K mg base 3 "_law_shown" fS fdS ["_law_f"] (spShown K CL CH)) (FI : Fn' P w K mg base 1 "_law_is" fI fdI ["_law_thing", "_law_due"] spIs)
    (FN : Fn' P w K mg base 6 "number" fN fdN [] (spNumber K CL CH)) (FA : Fn' P w K mg base 6 "_law_constant_right" fA fdA ["_law_purse_here"] spConstRight) (FB : Fn' P w K mg base 6 "_law_single_right" fB fdB ["_law_purse_here"] spSingleRight)
    (CF : CallF P w K mg base CL CH g gE fdg fdE) : FnOk P w K mg base CX0 7 f fd ["_law_purse_here"] spRight := by
  refine F.ok scRight (fun vs H Q E h => ?_) (fun cdv A outer s H vs Q E hr h => ?_)
  · obtain ⟨p, lo, hi, rfl, _⟩ := h
    rfl
  · obtain ⟨p, lo, hi, rfl, hp, hhi, k⟩ := h
    have hu := hr.units
    have nd := scRight.nd
    refine ⟨_, pss_cons (ps_set (i := 1) nd rfl (Or.inr rfl) (pe_call0 FN.ok (by exact hr) (by rfl) FN.m FN.k FN.b .nil pass0))
      (pss_cons (ps_set (i := 2) nd rfl (Or.inl rfl) (peD_two (peD_two (peD_two peD_pair peD_pair) (peD_two peD_pair peD_pair)) (peD_two (peD_two peD_pair peD_pair) (peD_two (peD_two peD_neg peD_int) peD_pair))))
      (pss_cons (ps_if (PW.pt (pw_or (pt_not (pt_val (pe_callB call_isi (by rfl) BC.isinst (by decide +kernel) (pa_cons (pv 1) (pa_cons (pe_glob (v := .ref CH) (by rfl) BL.halved rfl) pa_nil))))) (pw_or1 (pt_cmpR (op_neD hu) (pe_call FS.ok (by exact hr.mono (by decide)) (by rfl) FS.m FS.k FS.b .nil pass0 (pa_cons (pv 1) pa_nil)) (pe_lst (pa_cons pe_int (pa_cons (peD_two peD_pair peD_pair) (pa_cons (pv 2) (pa_cons peD_pair pa_nil))))) (nomark _))))) (pss_one (ps_ret pe_bl)) pss_nil)
      (pss_cons (ps_set (i := 3) nd rfl (Or.inl rfl) (pe_lst (pa_cons pe_int (pa_cons pe_int (pa_cons pe_int (pa_cons pe_int (pa_cons pe_int (pa_cons (pe_call FR.ok (by exact hr.mono (by decide)) (by rfl) FR.m FR.k FR.b .nil pass0 (pa_cons (pv 0) pa_nil)) (pa_cons (pe_op op_powW (pe_op op_powW pe_int pe_int) pe_int) pa_nil)))))))))
      (pss_cons (ps_if (pt_not (pt_val (pe_callB (cr_all rfl) (by rfl) BL.all (by decide +kernel) (pa_cons (pe_lc (own := [("_law_at", 4)]) (g := gName 4) (tt := tYes) rfl nd (pi_list (pv 3)) (blkOk_by (N := ["_law_purse_here", "_law_f", "_law_pairs", "_law_some", "_law_at"]) (sc := defScope sRight) (by decide +kernel))
          (fun _ _ _ _ _ => pg_name (i := 4) nd rfl (Or.inl rfl) (Or.inr rfl)) (fun _ _ _ _ _ => pts_nil)
          (fun _ _ _ _ _ => pe_and (pe_call FI.ok (by exact hr.mono (by decide)) (by rfl) FI.m FI.k FI.b .nil pass0 (pa_cons (pe_callP (pv 1) CF.co (CF.ok.raw CF.b .nil) (by exact hr.mono (by decide)) pass0 (pa_cons (pv 4) pa_nil)) (pa_cons (pv 4) pa_nil)))
            (pe_one (pe_call FI.ok (by exact hr.mono (by decide)) (by rfl) FI.m FI.k FI.b .nil pass0 (pa_cons (pe_callPK (pv 1) CF.co CF.ok (by exact hr.mono (by decide)) CF.kb pass0 (pk_cons (pv 4) pk_nil)) (pa_cons (pv 4) pa_nil)))))) pa_nil)))) (pss_one (ps_ret pe_bl)) pss_nil)
      (pss_one (ps_ret (pe_and (pe_call FA.ok (by exact hr) (by rfl) FA.m FA.k FA.b .nil pass0 (pa_cons (pv 0) pa_nil)) (pe_one (pe_call FB.ok (by exact hr) (by rfl) FB.m FB.k FB.b .nil pass0 (pa_cons (pv 0) pa_nil)))))))))), ?_⟩
    refine ⟨rfl, fun H1 a s1 hF1 => fun H2 v s2 dv => ?_⟩
    have hF2 := hF1.same s2
    have p2 := (hp.same s1).same s2
    have k02 : Kept p H H2 := (Same.kept s1).trans (Same.kept s2)
    obtain ⟨dx, l, m, bb, e, f1, i1, i2, i3, i4, i5, i6⟩ := hF2.ex
    refine ⟨_, rfl, _, _, .ref CH, .ref CH, true, rfl, .own _, .base (.ins i1 T.cl T.ha T.hn T.ht T.hm), T.hk, _, rfl, iteF ?_⟩
    refine ⟨_, rfl, a, _, _, _, rfl, hF2, fun H3 q s3 nq dq => fun H4 v1 s4 d1 => ⟨_, rfl, fun H5 v2 s5 d2 => ⟨by show 4 ≤ sizeLine; decide, fun l1 nl1 => ?_⟩⟩⟩
    have s6 := same_new (o := .lst [.int 2, v1, v, v2]) nl1
    have dl : Dp K (upd H5 l1 (.lst [.int 2, v1, v, v2])) (.ref l1) (shownD numberR) := .lst (SqL.of upd_same) (.cons (.int _) (.cons (dp_same s6 (dp_same s5 d1)) (.cons (dp_same s6 (dp_same s5 (dp_same s4 (dp_same s3 dv)))) (.cons (dp_same s6 d2) .nil))))
    refine ⟨_, _, dp_same s6 (dp_same s5 (dp_same s4 dq)), dl, (sh_shown _).shaped (by decide), (sh_shown _).shaped (by decide), _, rfl, ?_⟩
    have ese : (!(shownD numberR).eqv (shownD numberR)) = false := by rw [SeqAt.eqv_refl _ (sh_shown _).1]; rfl
    rw [ese]
    refine iteF ?_
    have s26 := ((s3.trans s4).trans s5).trans s6
    have hF6 := hF2.same s26
    have p6 := p2.same s26
    have k06 := k02.trans (Same.kept s26)
    generalize (upd H5 l1 (.lst [.int 2, v1, v, v2])) = H6 at *
    clear s26 dl ese dq d1 d2 dv s3 s4 s5 s6 i1 i2 i3 i4 i5 i6 hF2 hF1 p2 k02 s1 s2 nq
    obtain ⟨m60, L, hm60, hL, hbits, hLb⟩ := big_ok
    refine ⟨_, rfl, p, lo, hi, rfl, p6, by omega, fun z H7 hz k7 p7 => ?_⟩
    refine ⟨_, _, m60, rfl, rfl, ⟨by decide, ten_bits⟩, hm60, _, _, L, rfl, rfl, ⟨by decide, hbits⟩, hL, by show 7 ≤ sizeLine; decide, fun l2 nl2 => ?_⟩
    have hF7 := hF6.kept p6 k7 (fun m f c _ zz => by cases zz)
    obtain ⟨S, eS⟩ : ∃ S : List V, S = [V.int 0, V.int 1, V.int 2, V.int 3, V.int 100, V.int (z : Int), V.int L] := ⟨_, rfl⟩
    have aS : AllN S := by
      rw [eS]
      exact AllN.cons ⟨0, rfl, by have := big_more; omega⟩ (AllN.cons ⟨1, rfl, by have := big_more; omega⟩ (AllN.cons ⟨2, rfl, by have := big_more; omega⟩ (AllN.cons ⟨3, rfl, by have := big_more; omega⟩ (AllN.cons ⟨100, rfl, by have := big_more; omega⟩ (AllN.cons ⟨z, rfl, far_big hz⟩ (AllN.cons ⟨bigN, by rw [hLb, bigN_eq], by rw [bigN_eq]; exact Int.le_refl _⟩ AllN.nil))))))
    have lenS : S.length = 7 := by rw [eS]; rfl
    have s8 := same_new (o := .lst S) nl2
    have hl2 : (upd H7 l2 (.lst S)) l2 = some (.lst S) := upd_same
    have hF8 := hF7.same s8
    have p8 := p7.same s8
    have k08 := (k06.trans k7).trans (Same.kept s8)
    have e8 : (upd H7 l2 (.lst S)) = (upd H7 l2 (.lst [V.int 0, V.int 1, V.int 2, V.int 3, V.int 100, V.int (z : Int), V.int L])) := by rw [eS]
    rw [← e8]
    generalize (upd H7 l2 (.lst S)) = H8 at *
    clear s8 e8 eS nl2 hF6 hF7 p6 p7 k06 k7 hL hbits hm60
    refine ⟨_, rfl, l2, rfl, ⟨_, SqL.of hl2⟩, fun D nD => ?_⟩
    refine lc_out (walk_list (xs := S)) (fun i Hc => Same H8 Hc ∧ Hc D = some (.lst ((List.replicate i true).map V.bl))) ⟨same_new nD, upd_same⟩ (fun i Hc _ hP => SqL.of (hP.1 _ _ hl2)) ?_ ?_
    · rintro i x Hc H' hi ⟨hs, hD⟩ ⟨rfl, hx⟩
      have hi7 : i < 7 := by rw [← lenS]; exact hi
      obtain ⟨m, rfl, hm⟩ := aS x (List.mem_of_getElem? hx)
      refine ⟨rfl, ?_⟩
      have hFc := hF8.same hs
      obtain ⟨dx2, l', m', bb', e', f1', j1, j2⟩ := hFc.ex
      have ev : sumOf [(0, 1)] (vat numberLines m) = (m : Int) := by rw [value_number, sumOf1]; rfl
      have r2 : RowIn 2 numberLines.starts.length [(0, 1)] := ⟨by decide, by decide, by decide, by unfold Halves.Small; decide⟩
      refine ⟨_, rfl, a, rfl, _, rfl, ⟨dx2, _, j1⟩, a, _, _, _, m, 2, 1, 2, rfl, hFc, wb_number, r2, hm, fun H9 s9 => ?_⟩
      rw [ev]
      refine ⟨_, rfl, _, _, rfl, _, rfl, ?_⟩
      rw [decide_eq_true (rfl : (m : Int) = m)]
      refine iteT ⟨_, rfl, a, rfl, _, rfl, ⟨dx2, _, s9 _ _ j1⟩, a, _, _, _, m, 2, 1, 2, rfl, hFc.same s9, wb_number, r2, hm, fun H10 s10 => ?_⟩
      rw [ev]
      refine ⟨_, rfl, _, _, rfl, ?_⟩
      rw [decide_eq_true (rfl : (m : Int) = m)]
      have hD16 := s10 _ _ (s9 _ _ hD)
      refine ⟨_, hD16, small1000 (by simp; omega), fun b o e => ?_, ?_⟩
      · rw [upd_ne (by intro z; rw [z, nD] at e; cases e)]; exact s10 _ _ (s9 _ _ (hs _ _ e))
      · rw [upd_same, List.replicate_succ', List.map_append]; rfl
    · rintro Hc ⟨hs, hD⟩
      refine ⟨D, List.replicate S.length true, rfl, SqL.of hD, _, rfl, ?_⟩
      have eall : (List.replicate S.length true).all id = true := by rw [lenS]; rfl
      rw [eall]
      refine iteF ?_
      refine ⟨_, rfl, p, _, _, rfl, p8.same hs, by omega, fun H9 k9 p9 => ⟨_, rfl, iteT ?_⟩⟩
      refine ⟨_, rfl, p, _, _, rfl, p9, by omega, by omega, fun H10 k10 p10 => ?_⟩
      exact k H10 (((k08.trans (Same.kept hs)).trans k9).trans k10)
end
end L2.EH
end S_L26
section S_L27
set_option exponentiation.threshold 2000
set_option maxRecDepth 100000
set_option maxHeartbeats 4000000
namespace L2.EH
open PySem PySem.Spec PyProof.Rows StX
/-! ### the law -/
theorem scLaw : FnScope ["_law_cells", "_law_purses", "_law_k", "_law_purse_here"] ["_law_cells"] (defScope sLaw) := ⟨rfl, rfl, rfl, by decide +kernel, rfl, by decide +kernel, by decide +kernel⟩
def spLaw (K : PySem.W.Frag) : Sp := fun vs H Q _ => ∃ (a : Addr) (ns : List Int), vs = [.ref a] ∧ SqL K H a (ns.map V.int) ∧ ns.length ≤ 63 ∧ ∀ H', Q (.bl true) H'
structure NmM (mg : Str → Option Value) : Prop where
  max : mg "max" = none
  min : mg "min" = none
theorem nd_ix {α : Type} [DecidableEq α] {l : List α} (h : l.Nodup) {i j : Nat} {x : α} (hi : l[i]? = some x) (hj : l[j]? = some x) : i = j := by
  obtain ⟨h1, e1⟩ := List.getElem?_eq_some_iff.1 hi
  obtain ⟨h2, e2⟩ := List.getElem?_eq_some_iff.1 hj
  have pw := List.pairwise_iff_getElem.1 h
  rcases Nat.lt_trichotomy i j with c | c | c
  · exact absurd (e1.trans e2.symm) (pw i j h1 h2 c)
  · exact c
  · exact absurd (e2.trans e1.symm) (pw j i h2 h1 c)
section
variable {P : Program} {w : World} {K : PySem.W.Frag} {mg : Str → Option Value} {base : Heap}
theorem ok_law {f fC fP fR : Addr} {fd dC dP dR : FuncData} (F : Fun K "law" "law" sLaw f fd) (B : Nm7 mg) (BL : mg "all" = none) (BM : NmM mg) (Ce : Fn' P w K mg base 1 "_law_cell" fC dC ["_law_cells", "_law_k"] (spCell K)) (Pu : Fn' P w K mg base 1 "_law_purse" fP dP ["_law_cell_here"] spPurse)
    (Ri : Fn' P w K mg base 7 "_law_right" fR dR ["_law_purse_here"] spRight) : FnOk P w K mg base CX0 8 f fd ["_law_cells"] (spLaw K) := by
  refine F.ok scLaw (fun vs H Q E h => ?_) (fun cdv A outer s H vs Q E hr h => ?_)
  · obtain ⟨a, ns, rfl, _⟩ := h
    rfl
  · obtain ⟨a, ns, rfl, ha, hl, k⟩ := h
    have nd := scLaw.nd
    refine ⟨_, pss_cons (ps_setLc (i := 1) (own := [("_law_k", 2)]) (g := gName 2) (tt := tYes) (by rfl) nd rfl rfl (sw_true rfl rfl rfl (by decide +kernel)) (pi_range1 (by rfl) B.range (pa_cons (pe_callB (call_max2 rfl) (by rfl) BM.max (by decide +kernel) (pa_cons pe_int (pa_cons (pe_callB (call_min2 rfl) (by rfl) BM.min (by decide +kernel) (pa_cons (pe_callB call_len (by rfl) B.len boot_len (pa_cons (pv 0) pa_nil)) (pa_cons pe_int pa_nil))) pa_nil))) pa_nil))
          (blkOk_by (own := [("_law_k", 2)]) (N := ["_law_cells", "_law_purses", "_law_k", "_law_purse_here"]) (sc := defScope sLaw) (by decide +kernel)) (fun _ _ _ _ _ => pg_name (i := 2) nd rfl (Or.inl rfl) (Or.inr rfl)) (fun _ _ _ _ _ => pts_nil)
          (fun _ _ _ _ _ => pe_call Pu.ok (by exact hr.mono (by decide)) (by rfl) Pu.m Pu.k Pu.b .nil pass0 (pa_cons (pe_call Ce.ok (by exact hr.mono (by decide)) (by rfl) Ce.m Ce.k Ce.b .nil pass0 (pa_cons (pv 0) (pa_cons (pv 2) pa_nil))) pa_nil)))
      (pss_one (ps_ret (pe_callB (cr_all rfl) (by rfl) BL (by decide +kernel) (pa_cons (pe_lc (own := [("_law_purse_here", 3)]) (g := gName 3) (tt := tYes) rfl nd (pi_list (pv 1)) (blkOk_by (own := [("_law_purse_here", 3)]) (N := ["_law_cells", "_law_purses", "_law_k", "_law_purse_here"]) (sc := defScope sLaw) (by decide +kernel)) (fun _ _ _ _ _ => pg_name (i := 3) nd rfl (Or.inl rfl) (Or.inr rfl)) (fun _ _ _ _ _ => pts_nil)
          (fun _ _ _ _ _ => pe_call Ri.ok (by exact hr) (by rfl) Ri.m Ri.k Ri.b .nil pass0 (pa_cons (pv 3) pa_nil))) pa_nil)))), ?_⟩
    have few : ∀ z : Int, 0 ≤ z → z ≤ 63 → ∃ n : Nat, n ≤ 4 ∧ (if (if (4 : Int) < z then (4 : Int) else z) > 2 then (if (4 : Int) < z then (4 : Int) else z) else 2) = (n : Int) := fun z hz hz2 => by
      by_cases h4 : (4 : Int) < z
      · rw [if_pos h4]; exact ⟨4, by omega, by rw [if_pos (by omega)]; rfl⟩
      · rw [if_neg h4]
        by_cases h2 : z > 2
        · rw [if_pos h2]; exact ⟨z.toNat, by omega, by omega⟩
        · rw [if_neg h2]; exact ⟨2, by omega, rfl⟩
    obtain ⟨n, hn4, hn⟩ := few (((ns.map V.int).length : Nat) : Int) (by omega) (by rw [List.length_map]; omega)
    refine ⟨_, rfl, _, _, rfl, .inl ⟨_, ha, rfl⟩, _, _, rfl, _, _, rfl, ?_⟩
    show ∃ j : Int, [V.int (if (if (4 : Int) < (((ns.map V.int).length : Nat) : Int) then (4 : Int) else (((ns.map V.int).length : Nat) : Int)) > 2 then (if (4 : Int) < (((ns.map V.int).length : Nat) : Int) then (4 : Int) else (((ns.map V.int).length : Nat) : Int)) else 2)] = [.int j] ∧ _
    rw [hn]
    refine ⟨(n : Int), rfl, by omega, by omega, fun D hD => ?_⟩
    have en : ((n : Int)).toNat = n := by omega
    refine lc_out walk_range (fun i H' => Same H H' ∧ ∃ ps : List Addr, H' D = some (.lst (ps.map V.ref)) ∧ ps.length = i ∧ ps.Nodup ∧ D ∉ ps ∧ ∀ p ∈ ps, Purse H' p 0 0) ⟨same_new hD, [], upd_same, rfl, List.nodup_nil, List.not_mem_nil, fun p hp => absurd hp List.not_mem_nil⟩ (fun _ _ _ _ => trivial) ?_ ?_
    · rintro i x Hc H' hi ⟨sH, ps, hDl, hlen, hnd', hDn, hpu⟩ ⟨rfl, rfl⟩
      have hi4 : i < n := by omega
      refine ⟨rfl, _, rfl, _, rfl, a, ns, i, by show [V.ref a, V.int (0 + (i : Int))] = _; rw [Int.zero_add], sH.seq ha, hl, by omega, fun z H3 s3 => ⟨z, rfl, fun p m f np hm hm2 hf => ?_⟩⟩
      have hD3 := s3 _ _ hDl
      have neD : D ≠ p := ne_of_none hD3 np
      have s4 := same_new (o := .lst [.int m, .int f, .int 0]) np
      refine ⟨ps.map V.ref, by rw [upd_ne neD]; exact hD3, by rw [List.length_map]; exact small1000 (by omega), ?_⟩
      have pnew : ∀ q ∈ ps, q ≠ p := fun q hq => by
        obtain ⟨m', f', c', h', _⟩ := hpu q hq
        exact ne_of_none (s3 _ _ h') np
      have other : ∀ b o, b ≠ D → (upd H3 p (.lst [.int m, .int f, .int 0])) b = some o → (upd (upd H3 p (.lst [.int m, .int f, .int 0])) D (.lst (ps.map V.ref ++ [.ref p]))) b = some o := fun b o nb e => by rw [upd_ne nb]; exact e
      refine ⟨fun b o e => other b o (ne_of_none e hD) (s4 _ _ (s3 _ _ (sH _ _ e))), ps ++ [p], by rw [upd_same, List.map_append]; rfl, by rw [List.length_append, hlen]; rfl, ?_, ?_, ?_⟩
      · exact List.nodup_append.mpr ⟨hnd', by simp, fun q hq r hr => by
          rw [List.mem_singleton.mp hr]; exact pnew q hq⟩
      · intro hm'
        rcases List.mem_append.mp hm' with z | z
        · exact hDn z
        · exact neD (List.mem_singleton.mp z)
      · intro q hq
        rcases List.mem_append.mp hq with z | z
        · obtain ⟨m', f', c', h', r⟩ := hpu q z
          exact ⟨m', f', c', other q _ (fun e => hDn (e ▸ z)) (s4 _ _ (s3 _ _ h')), r⟩
        · rw [List.mem_singleton.mp z]
          exact ⟨m, f, 0, other p _ (Ne.symm neD) upd_same, hm, hm2, hf, by decide, by decide⟩
    · rintro H1 ⟨sH, ps, hDl, hlen, hnd', hDn, hpu⟩
      refine ⟨_, rfl, D, rfl, ⟨_, SqL.of hDl⟩, fun D2 hD2 => ?_⟩
      have hlen4 : ps.length ≤ 4 := by omega
      refine lc_out (walk_list (xs := ps.map V.ref)) (fun i H' => H' D = some (.lst (ps.map V.ref)) ∧ H' D2 = some (.lst ((List.replicate i true).map V.bl)) ∧ D ≠ D2 ∧ ∀ (j : Nat) (p : Addr), i ≤ j → ps[j]? = some p → p ≠ D2 ∧ Purse H' p 0 0) ?_ (fun i H' _ hP => SqL.of hP.1) ?_ ?_
      · refine ⟨by rw [upd_ne (ne_of_none hDl hD2)]; exact hDl, upd_same, ne_of_none hDl hD2, fun j p _ hp => ?_⟩
        have hmem := List.mem_of_getElem? hp
        obtain ⟨m', f', c', h', r⟩ := hpu p hmem
        exact ⟨ne_of_none h' hD2, m', f', c', by rw [upd_ne (ne_of_none h' hD2)]; exact h', r⟩
      · rintro i x Hc H4 hi ⟨h4, h5, hDD2, h6⟩ ⟨rfl, hx⟩
        rw [List.getElem?_map] at hx
        cases e : ps[i]? with
        | none => rw [e] at hx; cases hx
        | some p =>
          rw [e] at hx
          cases hx
          obtain ⟨nep, hp⟩ := h6 i p (Nat.le_refl _) e
          have hpD : p ≠ D := fun z => hDn (z ▸ List.mem_of_getElem? e)
          have hilt : i < ps.length := (List.getElem?_eq_some_iff.mp e).1
          refine ⟨rfl, _, rfl, p, 0, 0, rfl, hp, by decide, fun H5 kb => ?_⟩
          refine ⟨_, kb _ _ (Ne.symm nep) h5, by rw [List.length_map, List.length_replicate]; exact small1000 (by omega), ?_⟩
          refine ⟨by rw [upd_ne hDD2]; exact kb _ _ (Ne.symm hpD) h4, by rw [upd_same, List.replicate_succ', List.map_append]; rfl, hDD2, fun j q hj hq => ?_⟩
          obtain ⟨neq, m', f', c', h', r⟩ := h6 j q (by omega) hq
          have nqp : q ≠ p := fun z => by
            rw [z] at hq
            have := nd_ix hnd' hq e
            omega
          exact ⟨neq, m', f', c', by rw [upd_ne neq]; exact kb _ _ nqp h', r⟩
      · rintro H4 ⟨h4, h5, _, h6⟩
        refine ⟨D2, _, rfl, SqL.of h5, ?_⟩
        rw [show (List.replicate (ps.map V.ref).length true).all id = true by simp]
        exact k _
end
end L2.EH
end S_L27
section S_M4
set_option maxRecDepth 100000
set_option maxHeartbeats 0
namespace L2.EH
open PySem PySem.Spec PyProof.Rows L2 StX
/-! ### the head's facts as structures -/
theorem fun_bindsA {K : PySem.W.Frag} {x qual : Str} {st : Stmt} {f : Addr} {fd : FuncData} {ps : List Str} (F : Fun K x qual st f fd)
    (h : ∀ (kV doc pm : Value) (an : Option Addr) (cdv ct : Value) (us : List Value), us.length = ps.length → bindArgs (PySem.W.fnOf x qual (defArgs st) (defBody st) (defScope st) .none kV doc pm an cdv ct) ⟨us, []⟩ = pure (ps.zip us)) (s : Shared) (us : List Value) (hl : us.length = ps.length) :
    BindsTo s fd ⟨us, []⟩ (ps.zip us) := by
  obtain ⟨oc, od, kV, doc, pm, an, cdv, ct, osl, rfl, lk, hcd⟩ := F.ex
  exact .of_eq (h kV doc pm an cdv ct us hl)
/-- one parameter, given by its place or by its name -/
theorem fun_k1 {K : PySem.W.Frag} {x qual p : Str} {st : Stmt} {f : Addr} {fd : FuncData} (F : Fun K x qual st f fd)
    (h0 : ∀ (kV doc pm : Value) (an : Option Addr) (cdv ct u : Value), bindArgs (PySem.W.fnOf x qual (defArgs st) (defBody st) (defScope st) .none kV doc pm an cdv ct) ⟨[u], []⟩ = pure [(p, u)])
    (h1 : ∀ (kV doc pm : Value) (an : Option Addr) (cdv ct u : Value), bindArgs (PySem.W.fnOf x qual (defArgs st) (defBody st) (defScope st) .none kV doc pm an cdv ct) ⟨[], [(p, u)]⟩ = pure [(p, u)]) :
    KBinds K fd [p] [p] (fun us ws => us ++ ws) (fun vs zs => vs ++ zs) := by
  obtain ⟨oc, od, kV, doc, pm, an, cdv, ct, osl, rfl, lk, hcd⟩ := F.ex
  refine ⟨fun s us ws _ hl => ?_, fun r rz => r.append rz⟩
  match us, ws, hl with
  | [u], [], _ => exact .of_eq (h0 kV doc pm an cdv ct u)
  | [], [u], _ => exact .of_eq (h1 kV doc pm an cdv ct u)
  | u :: v :: r, ws, hl => exact absurd hl (by simp)
  | [u], v :: r, hl => exact absurd hl (by simp)
  | [], [], hl => exact absurd hl (by simp)
  | [], u :: v :: r, hl => exact absurd hl (by simp)
/-- two parameters, the second one by its name -/
theorem fun_k2 {K : PySem.W.Frag} {x qual p q : Str} {st : Stmt} {f : Addr} {fd : FuncData} (F : Fun K x qual st f fd)
    (h1 : ∀ (kV doc pm : Value) (an : Option Addr) (cdv ct u v : Value), bindArgs (PySem.W.fnOf x qual (defArgs st) (defBody st) (defScope st) .none kV doc pm an cdv ct) ⟨[u], [(q, v)]⟩ = pure [(p, u), (q, v)]) :
    KBinds K fd [p, q] [q] kN kN := by
  obtain ⟨oc, od, kV, doc, pm, an, cdv, ct, osl, rfl, lk, hcd⟩ := F.ex
  refine ⟨fun s us ws _ hl => ?_, fun {vs us zs ws} r rz => ?_⟩
  · match us, ws, hl with
    | [u], [v], _ => exact .of_eq (h1 kV doc pm an cdv ct u v)
    | [], ws, hl => exact absurd hl (by simp [kN])
    | u :: v :: r, ws, hl => exact absurd hl (by simp [kN])
    | [u], [], hl => exact absurd hl (by simp [kN])
    | [u], v :: w :: r, hl => exact absurd hl (by simp [kN])
  · match vs, us, r, zs, ws, rz with
    | _, _, .nil, _, _, _ => exact .nil
    | _, _, .cons a .nil, _, _, .nil => exact .nil
    | _, _, .cons a .nil, _, _, .cons b .nil => exact .cons a (.cons b .nil)
    | _, _, .cons a .nil, _, _, .cons b (.cons d r) => exact .nil
    | _, _, .cons a (.cons b r), _, _, _ => exact .nil
section
variable {K : PySem.W.Frag} {h : Heap} {mg : Str → Option Value}
theorem ex_three (c : SaysP exB fnAll K) : (frees.all fun x => (He.Fa.free x).ok K) = true ∧ ((globs (fnA ++ (fnB ++ (fnC ++ fnD)))).all fun x => (He.Fa.glo x).ok K) = true ∧ (factsB K).all id = true := by
  have e := c.ex
  unfold exB at e
  obtain ⟨e1, e2⟩ := Bool.and_eq_true_iff.mp e
  obtain ⟨e3, e4⟩ := Bool.and_eq_true_iff.mp e2
  exact ⟨e1, e3, e4⟩
theorem h_free (X : K.In h) (G : h.Ns mainGlobals mg) (c : SaysP exB fnAll K) {x : Str} (hx : x ∈ frees) : mg x = none := He.free_ok X G (List.all_eq_true.mp (ex_three c).1 x hx)
theorem h_glob (X : K.In h) (G : h.Ns mainGlobals mg) (c : SaysP exB fnAll K) {x : Str} (hx : x ∈ globs (fnA ++ (fnB ++ (fnC ++ fnD)))) : mg x = some (.ref (He.ga K x)) := He.glo_ok X G (List.all_eq_true.mp (ex_three c).2.1 x hx)
theorem h_fact (c : SaysP exB fnAll K) (i : Nat) {b : Bool} (hb : (factsB K)[i]? = some b) : b = true := List.all_eq_true.mp (ex_three c).2.2 b (List.mem_of_getElem? hb)
theorem prop_of {C f : Str} (p : propB K C f = true) : PropOf K (He.ga K C) f (He.ma K (He.ga K C) f) (prp C f K) := by
  unfold propB at p
  obtain ⟨p1, p⟩ := Bool.and_eq_true_iff.mp p
  obtain ⟨p2, p⟩ := Bool.and_eq_true_iff.mp p
  obtain ⟨p3, p4⟩ := Bool.and_eq_true_iff.mp p
  refine ⟨He.eqO_ok p1, He.eqO_ok p2, of_decide_eq_true p3, ?_⟩
  unfold prp
  cases e : PySem.W.recIn K (He.ma K (He.ga K C) f) "property" with
  | none => rw [e] at p4; cases p4
  | some l =>
    cases l with
    | nil => rw [e] at p4; cases p4
    | cons v r =>
      cases v with
      | ref g => exact ⟨r, rfl⟩
      | _ => rw [e] at p4; cases p4
/-- all that the head tells of names -/
structure HF (K : PySem.W.Frag) (mg : Str → Option Value) (CL CH CT : Addr) : Prop where
  b1 : Nm mg
  b2 : Nm2 mg
  b3 : Nm3 mg
  b6 : Nm6 mg
  b7 : Nm7 mg
  b8 : Nm8 mg
  b9 : Nm9 mg
  bC : NmC mg
  bN : Nb mg
  bL : NmL mg CH
  bM : NmM mg
  list : mg "list" = none
  dict : mg "dict" = none
  big : ∃ t, mg "LARGEST" = some (.int big t)
  rank : ∃ t, mg "RANK" = some (.int 16 t)
  many : ∃ t, mg "MANY_DIGITS" = some (.int 30 t)
  gL : mg "Lines" = some (.ref CL)
  tL : LinesC K CL
  tH : HalvedC K CH
  gT : mg "TooMany" = some (.ref CT)
  xT : PySem.W.excIn K CT aeBase "ArithmeticError.__new__" = true
  kT : PySem.W.keepIn K (.ref CT) = true
  sT : PySem.W.subIn K (.ref CT) (.type "BaseException") = some true
  yT : PySem.W.typeIn K (.ref CT) = some (.type "type")
  eT : PySem.W.exmOne K (.ref CT) (.ref CT) = some true
theorem hf (X : K.In h) (G : h.Ns mainGlobals mg) (c : SaysP exB fnAll K) : HF K mg (He.ga K "Lines") (He.ga K "Halved") (He.ga K "TooMany") where
  b1 := ⟨h_free X G c (by decide +kernel)⟩
  b2 := ⟨h_free X G c (by decide +kernel)⟩
  b3 := ⟨PySem.W.mg_of X G (He.eqO_ok (h_fact c 0 (b := He.eqO (PySem.W.nsIn K mainGlobals "gcd") (some (some (.builtin "math.gcd")))) rfl))⟩
  b6 := ⟨h_free X G c (by decide +kernel)⟩
  b7 := ⟨h_free X G c (by decide +kernel), h_free X G c (by decide +kernel), h_free X G c (by decide +kernel), h_free X G c (by decide +kernel)⟩
  b8 := ⟨h_free X G c (by decide +kernel)⟩
  b9 := ⟨h_free X G c (by decide +kernel), h_free X G c (by decide +kernel)⟩
  bC := ⟨h_free X G c (by decide +kernel), h_free X G c (by decide +kernel), h_free X G c (by decide +kernel)⟩
  bN := ⟨h_free X G c (by decide +kernel), h_free X G c (by decide +kernel), h_free X G c (by decide +kernel), h_free X G c (by decide +kernel)⟩
  bL := ⟨h_free X G c (by decide +kernel), He.glo_ok X G (h_fact c 9 (b := (He.Fa.glo "Halved").ok K) rfl)⟩
  bM := ⟨h_free X G c (by decide +kernel), h_free X G c (by decide +kernel)⟩
  list := h_free X G c (by decide +kernel)
  dict := h_free X G c (by decide +kernel)
  big := He.int_ok X G (h_fact c 3 (b := intB K "LARGEST" L2.EH.big) rfl)
  rank := He.int_ok X G (h_fact c 1 (b := intB K "RANK" 16) rfl)
  many := He.int_ok X G (h_fact c 2 (b := intB K "MANY_DIGITS" 30) rfl)
  gL := He.glo_ok X G (h_fact c 4 (b := (He.Fa.glo "Lines").ok K) rfl)
  tL := ⟨He.cls_ok (h_fact c 5 (b := (He.Fa.cls "Lines").ok K) rfl), He.noat_ok (h_fact c 6 (b := (He.Fa.noat "Lines" "halves").ok K) rfl), He.noat_ok (h_fact c 7 (b := (He.Fa.noat "Lines" "starts").ok K) rfl)⟩
  tH := ⟨He.cls_ok (h_fact c 10 (b := (He.Fa.cls "Halved").ok K) rfl), He.noat_ok (h_fact c 11 (b := (He.Fa.noat "Halved" "lines").ok K) rfl), He.noat_ok (h_fact c 12 (b := (He.Fa.noat "Halved" "mix").ok K) rfl),
    He.noat_ok (h_fact c 13 (b := (He.Fa.noat "Halved" "_basis").ok K) rfl), He.noat_ok (h_fact c 14 (b := (He.Fa.noat "Halved" "_equations").ok K) rfl), He.noat_ok (h_fact c 15 (b := (He.Fa.noat "Halved" "_firsts").ok K) rfl),
    He.eqO_ok (h_fact c 17 (b := He.eqO (PySem.W.findIn K (.ref (He.ga K "Halved")) "__class__") (some (some (.builtin "object.__class__")))) rfl), He.eqO_ok (h_fact c 18 (b := He.eqO (PySem.W.specialIn K (.builtin "object.__class__") "__get__") (some (some (.builtin "getset_descriptor.__get__")))) rfl),
    of_decide_eq_true (h_fact c 19 (b := decide (PySem.W.takesIn K (.builtin "object.__class__") = some true)) rfl), of_decide_eq_true (h_fact c 20 (b := decide (PySem.W.mroIn K (He.ga K "Halved") (.type "object") = some true)) rfl),
    of_decide_eq_true (h_fact c 21 (b := decide (PySem.W.kitOne K (.ref (He.ga K "Halved")) (.ref (He.ga K "Halved")) = some true)) rfl)⟩
  gT := He.glo_ok X G (h_fact c 31 (b := (He.Fa.glo "TooMany").ok K) rfl)
  xT := h_fact c 32 rfl
  kT := h_fact c 33 rfl
  sT := of_decide_eq_true (h_fact c 34 (b := decide (PySem.W.subIn K (.ref (He.ga K "TooMany")) (.type "BaseException") = some true)) rfl)
  yT := of_decide_eq_true (h_fact c 35 (b := decide (PySem.W.typeIn K (.ref (He.ga K "TooMany")) = some (.type "type"))) rfl)
  eT := of_decide_eq_true (h_fact c 36 (b := decide (PySem.W.exmOne K (.ref (He.ga K "TooMany")) (.ref (He.ga K "TooMany")) = some true)) rfl)
theorem h_mkL (c : SaysP exB fnAll K) : Mk K (He.ga K "Lines") (mth "Lines" "__init__" K) := He.mkr_ok (h_fact c 8 (b := (He.Fa.mkr "Lines").ok K) rfl)
theorem h_mkH (c : SaysP exB fnAll K) : Mk K (He.ga K "Halved") (mth "Halved" "__init__" K) := He.mkr_ok (h_fact c 16 (b := (He.Fa.mkr "Halved").ok K) rfl)
theorem h_prop (c : SaysP exB fnAll K) (i : Nat) {f : Str} (e : (factsB K)[i]? = some (propB K "Halved" f)) : PropOf K (He.ga K "Halved") f (He.ma K (He.ga K "Halved") f) (prp "Halved" f K) := prop_of (h_fact c i e)
theorem h_call (c : SaysP exB fnAll K) : CallO K (He.ga K "Halved") (mth "Halved" "__call__" K) := ⟨He.eqO_ok (h_fact c 26 (b := He.eqO (PySem.W.findIn K (.ref (He.ga K "Halved")) "__call__") (some (some (.ref (He.ma K (He.ga K "Halved") "__call__"))))) rfl), h_fact c 27 rfl, h_fact c 28 rfl⟩
theorem h_eqF (c : SaysP exB fnAll K) : PySem.W.findIn K (.ref (He.ga K "Halved")) "__eq__" = some (some (.ref (mth "Halved" "__eq__" K))) := He.eqO_ok (h_fact c 29 (b := He.eqO (PySem.W.findIn K (.ref (He.ga K "Halved")) "__eq__") (some (some (.ref (He.ma K (He.ga K "Halved") "__eq__"))))) rfl)
theorem h_eqI (c : SaysP exB fnAll K) : PySem.W.isFn K (.ref (mth "Halved" "__eq__" K)) = true := h_fact c 30 rfl
end
end L2.EH
end S_M4
section S_M5
set_option maxRecDepth 100000
set_option maxHeartbeats 0
namespace L2.EH
open PySem PySem.Spec PyProof.Rows L2 StX
/-! ### from the head's facts to the law's promise -/
section
variable {P : Program} {w : World} {K : PySem.W.Frag} {h : Heap} {mg : Str → Option Value} {base : Heap}
theorem facts_law (X : K.In h) (G : h.Ns mainGlobals mg) {f : Addr} (hfa : mg ("law" : Str) = some (.ref f)) (c : SaysP exB fnAll K) :
    ∃ fd : FuncData, (∀ (s : Shared) (v : Value), BindsTo s fd ⟨[v], []⟩ [("_law_cells", v)]) ∧ ∀ base : Heap, K.In base → base.Ns mainGlobals mg → FnOk P w K mg base CX0 8 f fd ["_law_cells"] (spLaw K) := by
  have T := hf X G c
  obtain ⟨tB, hBig⟩ := T.big
  obtain ⟨tR, hRank⟩ := T.rank
  obtain ⟨tM, hMany⟩ := T.many
  obtain ⟨d_F_is_integer, F_is_integer⟩ := c.def_ 0 rfl
  obtain ⟨d_F_is_between, F_is_between⟩ := c.def_ 1 rfl
  obtain ⟨d_F_is_number, F_is_number⟩ := c.def_ 2 rfl
  obtain ⟨d_F_combined, F_combined⟩ := c.def_ 3 rfl
  obtain ⟨d_F_half_mix, F_half_mix⟩ := c.def_ 4 rfl
  obtain ⟨d_F_sum_of, F_sum_of⟩ := c.def_ 5 rfl
  obtain ⟨d_F_stepped_values, F_stepped_values⟩ := c.def_ 6 rfl
  obtain ⟨d_F_next_values, F_next_values⟩ := c.def_ 7 rfl
  obtain ⟨d_F_values_at, F_values_at⟩ := c.def_ 8 rfl
  obtain ⟨d_F_values_far_out, F_values_far_out⟩ := c.def_ 9 rfl
  obtain ⟨d_F_trimmed, F_trimmed⟩ := c.def_ 11 rfl
  obtain ⟨d_F_cleared, F_cleared⟩ := c.def_ 12 rfl
  obtain ⟨d_F_reduced, F_reduced⟩ := c.def_ 13 rfl
  obtain ⟨d_F_least_index, F_least_index⟩ := c.def_ 14 rfl
  obtain ⟨d_F_least_rule, F_least_rule⟩ := c.def_ 15 rfl
  obtain ⟨d_F_told_parts, F_told_parts⟩ := c.def_ 16 rfl
  obtain ⟨d_F_half_part, F_half_part⟩ := c.def_ 17 rfl
  obtain ⟨d_F_combination, F_combination⟩ := c.def_ 18 rfl
  obtain ⟨d_F_fraction, F_fraction⟩ := c.def_ 19 rfl
  obtain ⟨d_F_filled, F_filled⟩ := c.def_ 20 rfl
  obtain ⟨d_F_function_of_basis, F_function_of_basis⟩ := c.def_ 21 rfl
  obtain ⟨d_F_whole_row, F_whole_row⟩ := c.def_ 22 rfl
  obtain ⟨d_F_constant, F_constant⟩ := c.def_ 23 rfl
  obtain ⟨d_F_number, F_number⟩ := c.def_ 24 rfl
  obtain ⟨d_F_single, F_single⟩ := c.def_ 25 rfl
  obtain ⟨d_F__law_cell, F__law_cell⟩ := c.def_ 26 rfl
  obtain ⟨d_F__law_purse, F__law_purse⟩ := c.def_ 27 rfl
  obtain ⟨d_F__law_draw, F__law_draw⟩ := c.def_ 28 rfl
  obtain ⟨d_F__law_of, F__law_of⟩ := c.def_ 29 rfl
  obtain ⟨d_F__law_far, F__law_far⟩ := c.def_ 30 rfl
  obtain ⟨d_F__law_is, F__law_is⟩ := c.def_ 31 rfl
  obtain ⟨d_F__law_heads, F__law_heads⟩ := c.def_ 32 rfl
  obtain ⟨d_F__law_one_at, F__law_one_at⟩ := c.def_ 33 rfl
  obtain ⟨d_F__law_rule_of_single, F__law_rule_of_single⟩ := c.def_ 34 rfl
  obtain ⟨d_F__law_shown, F__law_shown⟩ := c.def_ 35 rfl
  obtain ⟨d_F__law_too_many, F__law_too_many⟩ := c.def_ 36 rfl
  obtain ⟨d_F__law_constant_right, F__law_constant_right⟩ := c.def_ 37 rfl
  obtain ⟨d_F__law_single_right, F__law_single_right⟩ := c.def_ 38 rfl
  obtain ⟨d_F__law_right, F__law_right⟩ := c.def_ 39 rfl
  obtain ⟨d_F_law, F_law⟩ := c.def_ 40 rfl
  obtain ⟨d_F_Lines_init, F_Lines_init⟩ := c.def_ 41 rfl
  obtain ⟨d_F_Halved_init, F_Halved_init⟩ := c.def_ 42 rfl
  obtain ⟨d_F_rank, F_rank⟩ := c.def_ 43 rfl
  obtain ⟨d_F_basis, F_basis⟩ := c.def_ 44 rfl
  obtain ⟨d_F_equations, F_equations⟩ := c.def_ 45 rfl
  obtain ⟨d_F_firsts, F_firsts⟩ := c.def_ 46 rfl
  obtain ⟨d_F_call, F_call⟩ := c.def_ 47 rfl
  obtain ⟨d_F_eq, F_eq⟩ := c.def_ 48 rfl
  have e := hfa.symm.trans (h_glob X G c (x := "law") (by decide +kernel))
  cases e
  refine ⟨d_F_law, fun s v => fun_bindsA (ps := ["_law_cells"]) F_law (fun _ _ _ _ _ _ us hl => match us, hl with | [_], _ => rfl) s [v] rfl, fun base _ _ => ?_⟩
  have isInt : Fn' P w K mg base 1 "is_integer" (He.ga K "is_integer") d_F_is_integer ["value"] spIsInt := ⟨ok_isInt F_is_integer T.bC, F_is_integer.binds fun _ _ _ _ _ _ us hl => match us, hl with | [_], _ => rfl, h_glob X G c (by decide +kernel), F_is_integer.kp⟩
  have betw : Fn' P w K mg base 2 "is_between" (He.ga K "is_between") d_F_is_between ["value", "low", "high"] spBetween := ⟨ok_between F_is_between isInt, F_is_between.binds fun _ _ _ _ _ _ us hl => match us, hl with | [_, _, _], _ => rfl, h_glob X G c (by decide +kernel), F_is_between.kp⟩
  have isNum : Fn' P w K mg base 3 "is_number" (He.ga K "is_number") d_F_is_number ["value"] spIsNumber := ⟨ok_isNumber F_is_number hBig betw, F_is_number.binds fun _ _ _ _ _ _ us hl => match us, hl with | [_], _ => rfl, h_glob X G c (by decide +kernel), F_is_number.kp⟩
  have comb : Fn' P w K mg base 1 "combined" (He.ga K "combined") d_F_combined ["factors", "mixes"] (spCombined K) := ⟨ok_combined F_combined, F_combined.binds fun _ _ _ _ _ _ us hl => match us, hl with | [_, _], _ => rfl, h_glob X G c (by decide +kernel), F_combined.kp⟩
  have halfM : Fn' P w K mg base 2 "half_mix" (He.ga K "half_mix") d_F_half_mix ["lines", "mix", "digit"] (spHalfMix K (He.ga K "Lines")) := ⟨ok_halfMix F_half_mix T.tL comb, F_half_mix.binds fun _ _ _ _ _ _ us hl => match us, hl with | [_, _, _], _ => rfl, h_glob X G c (by decide +kernel), F_half_mix.kp⟩
  have sumOf_ : Fn' P w K mg base 1 "sum_of" (He.ga K "sum_of") d_F_sum_of ["factors", "values"] (spSumOf K) := ⟨ok_sumOf F_sum_of T.b6, F_sum_of.binds fun _ _ _ _ _ _ us hl => match us, hl with | [_, _], _ => rfl, h_glob X G c (by decide +kernel), F_sum_of.kp⟩
  have stepV : Fn' P w K mg base 2 "stepped_values" (He.ga K "stepped_values") d_F_stepped_values ["mixes", "values"] (spStepped K) := ⟨ok_stepped F_stepped_values T.b6, F_stepped_values.binds fun _ _ _ _ _ _ us hl => match us, hl with | [_, _], _ => rfl, h_glob X G c (by decide +kernel), F_stepped_values.kp⟩
  have nextV : Fn' P w K mg base 3 "next_values" (He.ga K "next_values") d_F_next_values ["lines", "values", "digit"] (spNext K (He.ga K "Lines")) := ⟨ok_next F_next_values T.tL stepV, F_next_values.binds fun _ _ _ _ _ _ us hl => match us, hl with | [_, _, _], _ => rfl, h_glob X G c (by decide +kernel), F_next_values.kp⟩
  have farV : Fn' P w K mg base 3 "values_far_out" (He.ga K "values_far_out") d_F_values_far_out ["lines", "n"] (spFar K (He.ga K "Lines")) := ⟨ok_far F_values_far_out T.tL T.b7 comb stepV, F_values_far_out.binds fun _ _ _ _ _ _ us hl => match us, hl with | [_, _], _ => rfl, h_glob X G c (by decide +kernel), F_values_far_out.kp⟩
  have atV : Fn' P w K mg base 4 "values_at" (He.ga K "values_at") d_F_values_at ["lines", "n"] (spFar K (He.ga K "Lines")) := ⟨ok_at F_values_at T.tL T.b7 hMany nextV farV, F_values_at.binds fun _ _ _ _ _ _ us hl => match us, hl with | [_, _], _ => rfl, h_glob X G c (by decide +kernel), F_values_at.kp⟩
  have trim : Fn' P w K mg base 1 "trimmed" (He.ga K "trimmed") d_F_trimmed ["row"] spTrimmed := ⟨ok_trimmed F_trimmed T.b3, F_trimmed.binds fun _ _ _ _ _ _ us hl => match us, hl with | [_], _ => rfl, h_glob X G c (by decide +kernel), F_trimmed.kp⟩
  have clea : Fn' P w K mg base 2 "cleared" (He.ga K "cleared") d_F_cleared ["row", "other", "pivot"] spCleared := ⟨ok_cleared F_cleared T.b3 T.dict trim.ok trim.b trim.m trim.k, F_cleared.binds fun _ _ _ _ _ _ us hl => match us, hl with | [_, _, _], _ => rfl, h_glob X G c (by decide +kernel), F_cleared.kp⟩
  have redu : Fn' P w K mg base 3 "reduced" (He.ga K "reduced") d_F_reduced ["row", "echelon"] (spReduced K) := ⟨ok_reduced F_reduced clea.ok clea.b clea.m clea.k, F_reduced.binds fun _ _ _ _ _ _ us hl => match us, hl with | [_, _], _ => rfl, h_glob X G c (by decide +kernel), F_reduced.kp⟩
  have lix : Fn' P w K mg base 1 "least_index" (He.ga K "least_index") d_F_least_index ["row", "width"] spLeastIx := ⟨ok_leastIx F_least_index T.b1, F_least_index.binds fun _ _ _ _ _ _ us hl => match us, hl with | [_, _], _ => rfl, h_glob X G c (by decide +kernel), F_least_index.kp⟩
  have frac : Fn' P w K mg base 1 "fraction" (He.ga K "fraction") d_F_fraction ["top", "bottom"] spFraction := ⟨ok_fraction F_fraction T.b3, F_fraction.binds fun _ _ _ _ _ _ us hl => match us, hl with | [_, _], _ => rfl, h_glob X G c (by decide +kernel), F_fraction.kp⟩
  have cmbn : Fn' P w K mg base 2 "combination" (He.ga K "combination") d_F_combination ["rest", "width", "many"] (spComb K) := ⟨ok_comb F_combination T.b7 frac, F_combination.binds fun _ _ _ _ _ _ us hl => match us, hl with | [_, _, _], _ => rfl, h_glob X G c (by decide +kernel), F_combination.kp⟩
  have fill : Fn' P w K mg base 1 "filled" (He.ga K "filled") d_F_filled ["fractions", "many"] (spFilled K) := ⟨ok_filled F_filled T.b7 T.b8, F_filled.binds fun _ _ _ _ _ _ us hl => match us, hl with | [_, _], _ => rfl, h_glob X G c (by decide +kernel), F_filled.kp⟩
  have halfP : Fn' P w K mg base 3 "half_part" (He.ga K "half_part") d_F_half_part ["lines", "part", "digit"] (spHalfPart K (He.ga K "Lines")) := ⟨ok_halfPart F_half_part halfM, F_half_part.binds fun _ _ _ _ _ _ us hl => match us, hl with | [_, _, _], _ => rfl, h_glob X G c (by decide +kernel), F_half_part.kp⟩
  have told : Fn' P w K mg base 4 "told_parts" (He.ga K "told_parts") d_F_told_parts ["lines", "mix"] (spTold K (He.ga K "Lines")) := ⟨ok_told F_told_parts T.tL T.b7 redu lix cmbn halfP, F_told_parts.binds fun _ _ _ _ _ _ us hl => match us, hl with | [_, _], _ => rfl, h_glob X G c (by decide +kernel), F_told_parts.kp⟩
  have least : Fn' P w K mg base 5 "least_rule" (He.ga K "least_rule") d_F_least_rule ["lines", "mix"] (spLeastRule K (He.ga K "Lines")) := ⟨ok_leastRule F_least_rule T.tL T.b7 T.b8 told fill sumOf_, F_least_rule.binds fun _ _ _ _ _ _ us hl => match us, hl with | [_, _], _ => rfl, h_glob X G c (by decide +kernel), F_least_rule.kp⟩
  have mL : Made P w K mg base 1 "Lines" (He.ga K "Lines") (mth "Lines" "__init__" K) d_F_Lines_init ["self", "evens", "odds", "starts"] (spLinesInit (He.ga K "Lines")) := ⟨h_mkL c, ok_linesInit F_Lines_init T.tL, T.gL, F_Lines_init.binds fun _ _ _ _ _ _ us hl => match us, hl with | [_, _, _, _], _ => rfl⟩
  have mH : Made P w K mg base 1 "Halved" (He.ga K "Halved") (mth "Halved" "__init__" K) d_F_Halved_init ["self", "lines", "mix", "told"] (spHInit (He.ga K "Halved")) := ⟨h_mkH c, ok_hInit F_Halved_init T.tH, T.bL.halved, F_Halved_init.binds fun _ _ _ _ _ _ us hl => match us, hl with | [_, _, _, _], _ => rfl⟩
  have wRow : Fn' P w K mg base 1 "whole_row" (He.ga K "whole_row") d_F_whole_row ["mix", "width"] (spWholeRow K) := ⟨ok_wholeRow F_whole_row T.b7 T.b8, F_whole_row.binds fun _ _ _ _ _ _ us hl => match us, hl with | [_, _], _ => rfl, h_glob X G c (by decide +kernel), F_whole_row.kp⟩
  have ofB : Fn' P w K mg base 3 "function_of_basis" (He.ga K "function_of_basis") d_F_function_of_basis ["lines", "basis"] (spOfBasis K (He.ga K "Lines") (He.ga K "Halved")) := ⟨ok_ofBasis F_function_of_basis T.tL T.b7 T.b8 T.b9 wRow mH, F_function_of_basis.binds fun _ _ _ _ _ _ us hl => match us, hl with | [_, _], _ => rfl, h_glob X G c (by decide +kernel), F_function_of_basis.kp⟩
  have const : Fn' P w K mg base 4 "constant" (He.ga K "constant") d_F_constant ["c"] (spConstant K (He.ga K "Lines") (He.ga K "Halved")) := ⟨ok_constant F_constant isInt mL mH ofB, F_constant.binds fun _ _ _ _ _ _ us hl => match us, hl with | [_], _ => rfl, h_glob X G c (by decide +kernel), F_constant.kp⟩
  have numb : Fn' P w K mg base 6 "number" (He.ga K "number") d_F_number [] (spNumber K (He.ga K "Lines") (He.ga K "Halved")) := ⟨ok_number F_number mL mH least, F_number.binds fun _ _ _ _ _ _ us hl => match us, hl with | [], _ => rfl, h_glob X G c (by decide +kernel), F_number.kp⟩
  have singOk : FnOk P w K mg base (L2.CX P w) 4 (He.ga K "single") d_F_single ["n"] (spSingle K (He.ga K "Lines") (He.ga K "Halved") (He.ga K "TooMany")) := ok_single F_single T.b7 T.b8 T.b9 isNum hRank T.xT T.gT T.kT T.sT T.yT mL ofB
  have singB : Binds K d_F_single ["n"] [] := F_single.binds fun _ _ _ _ _ _ us hl => match us, hl with | [_], _ => rfl
  have singM : mg "single" = some (.ref (He.ga K "single")) := h_glob X G c (by decide +kernel)
  have cell : Fn' P w K mg base 1 "_law_cell" (He.ga K "_law_cell") d_F__law_cell ["_law_cells", "_law_k"] (spCell K) := ⟨ok_cell F__law_cell T.bN, F__law_cell.binds fun _ _ _ _ _ _ us hl => match us, hl with | [_, _], _ => rfl, h_glob X G c (by decide +kernel), F__law_cell.kp⟩
  have purse : Fn' P w K mg base 1 "_law_purse" (He.ga K "_law_purse") d_F__law_purse ["_law_cell_here"] spPurse := ⟨ok_purse F__law_purse T.bN, F__law_purse.binds fun _ _ _ _ _ _ us hl => match us, hl with | [_], _ => rfl, h_glob X G c (by decide +kernel), F__law_purse.kp⟩
  have draw : Fn' P w K mg base 1 "_law_draw" (He.ga K "_law_draw") d_F__law_draw ["_law_purse_here", "_law_many"] spDrawP := ⟨ok_draw F__law_draw T.bN, F__law_draw.binds fun _ _ _ _ _ _ us hl => match us, hl with | [_, _], _ => rfl, h_glob X G c (by decide +kernel), F__law_draw.kp⟩
  have of_ : Fn' P w K mg base 2 "_law_of" (He.ga K "_law_of") d_F__law_of ["_law_purse_here", "_law_things"] (spOf K) := ⟨ok_of F__law_of T.bN draw, F__law_of.binds fun _ _ _ _ _ _ us hl => match us, hl with | [_, _], _ => rfl, h_glob X G c (by decide +kernel), F__law_of.kp⟩
  have far : Fn' P w K mg base 3 "_law_far" (He.ga K "_law_far") d_F__law_far ["_law_purse_here"] spLFar := ⟨ok_lFar F__law_far T.b7 draw of_, F__law_far.binds fun _ _ _ _ _ _ us hl => match us, hl with | [_], _ => rfl, h_glob X G c (by decide +kernel), F__law_far.kp⟩
  have is_ : Fn' P w K mg base 1 "_law_is" (He.ga K "_law_is") d_F__law_is ["_law_thing", "_law_due"] spIs := ⟨ok_is F__law_is T.bC, F__law_is.binds fun _ _ _ _ _ _ us hl => match us, hl with | [_, _], _ => rfl, h_glob X G c (by decide +kernel), F__law_is.kp⟩
  have heads : Fn' P w K mg base 1 "_law_heads" (He.ga K "_law_heads") d_F__law_heads ["_law_spot"] spHeads := ⟨ok_heads F__law_heads, F__law_heads.binds fun _ _ _ _ _ _ us hl => match us, hl with | [_], _ => rfl, h_glob X G c (by decide +kernel), F__law_heads.kp⟩
  have oneAt : Fn' P w K mg base 1 "_law_one_at" (He.ga K "_law_one_at") d_F__law_one_at ["_law_at", "_law_many"] (spOneAt K) := ⟨ok_oneAt F__law_one_at T.b7 T.b8 T.bN, F__law_one_at.binds fun _ _ _ _ _ _ us hl => match us, hl with | [_, _], _ => rfl, h_glob X G c (by decide +kernel), F__law_one_at.kp⟩
  have ruleS : Fn' P w K mg base 2 "_law_rule_of_single" (He.ga K "_law_rule_of_single") d_F__law_rule_of_single ["_law_spot"] (spRuleOf K) := ⟨ok_ruleOf F__law_rule_of_single T.b7 T.b8 T.bN heads oneAt, F__law_rule_of_single.binds fun _ _ _ _ _ _ us hl => match us, hl with | [_], _ => rfl, h_glob X G c (by decide +kernel), F__law_rule_of_single.kp⟩
  have p_rank : PropF P w K mg base (He.ga K "Halved") "rank" (He.ma K (He.ga K "Halved") "rank") (prp "Halved" "rank" K) d_F_rank (spRank K (He.ga K "Halved")) := ⟨h_prop c 22 rfl, ok_rank F_rank T.tH T.b7, F_rank.binds fun _ _ _ _ _ _ us hl => match us, hl with | [_], _ => rfl⟩
  have p_basis : PropF P w K mg base (He.ga K "Halved") "basis" (He.ma K (He.ga K "Halved") "basis") (prp "Halved" "basis" K) d_F_basis (spGet (He.ga K "Halved") "_basis") := ⟨h_prop c 23 rfl, ok_basis F_basis T.tH, F_basis.binds fun _ _ _ _ _ _ us hl => match us, hl with | [_], _ => rfl⟩
  have p_equations : PropF P w K mg base (He.ga K "Halved") "equations" (He.ma K (He.ga K "Halved") "equations") (prp "Halved" "equations" K) d_F_equations (spGet (He.ga K "Halved") "_equations") := ⟨h_prop c 24 rfl, ok_equations F_equations T.tH, F_equations.binds fun _ _ _ _ _ _ us hl => match us, hl with | [_], _ => rfl⟩
  have p_firsts : PropF P w K mg base (He.ga K "Halved") "firsts" (He.ma K (He.ga K "Halved") "firsts") (prp "Halved" "firsts" K) d_F_firsts (spGet (He.ga K "Halved") "_firsts") := ⟨h_prop c 25 rfl, ok_firsts F_firsts T.tH, F_firsts.binds fun _ _ _ _ _ _ us hl => match us, hl with | [_], _ => rfl⟩
  have shown : Fn' P w K mg base 3 "_law_shown" (He.ga K "_law_shown") d_F__law_shown ["_law_f"] (spShown K (He.ga K "Lines") (He.ga K "Halved")) := ⟨ok_shown F__law_shown T.tH p_rank p_basis p_equations p_firsts, F__law_shown.binds fun _ _ _ _ _ _ us hl => match us, hl with | [_], _ => rfl, h_glob X G c (by decide +kernel), F__law_shown.kp⟩
  have tooM : Fn' P w K mg base 5 "_law_too_many" (He.ga K "_law_too_many") d_F__law_too_many ["_law_spot"] spTooMany := ⟨ok_tooMany (CL := (He.ga K "Lines")) (CH := (He.ga K "Halved")) (CT := (He.ga K "TooMany")) F__law_too_many singOk singB singM F_single.kp T.gT T.eT, F__law_too_many.binds fun _ _ _ _ _ _ us hl => match us, hl with | [_], _ => rfl, h_glob X G c (by decide +kernel), F__law_too_many.kp⟩
  have CF : CallF P w K mg base (He.ga K "Lines") (He.ga K "Halved") (mth "Halved" "__call__" K) (mth "Halved" "__eq__" K) d_F_call d_F_eq := ⟨h_call c, ok_call F_call T.tH isNum sumOf_ atV, F_call.binds fun _ _ _ _ _ _ us hl => match us, hl with | [_, _], _ => rfl, fun_k2 F_call (fun _ _ _ _ _ _ _ _ => rfl), ok_equal F_eq T.tH T.bC T.bL.halved, h_eqF c, h_eqI c, F_eq.binds fun _ _ _ _ _ _ us hl => match us, hl with | [_, _], _ => rfl⟩
  have kC : KBinds K d_F_constant ["c"] ["c"] (fun us ws => us ++ ws) (fun vs zs => vs ++ zs) := fun_k1 F_constant (fun _ _ _ _ _ _ _ => rfl) (fun _ _ _ _ _ _ _ => rfl)
  have kS : KBinds K d_F_single ["n"] ["n"] (fun us ws => us ++ ws) (fun vs zs => vs ++ zs) := fun_k1 F_single (fun _ _ _ _ _ _ _ => rfl) (fun _ _ _ _ _ _ _ => rfl)
  have cR : Fn' P w K mg base 6 "_law_constant_right" (He.ga K "_law_constant_right") d_F__law_constant_right ["_law_purse_here"] spConstRight := ⟨ok_constRight F__law_constant_right T.b7 T.bC T.bL T.tH draw of_ far shown is_ const kC CF, F__law_constant_right.binds fun _ _ _ _ _ _ us hl => match us, hl with | [_], _ => rfl, h_glob X G c (by decide +kernel), F__law_constant_right.kp⟩
  have sR : Fn' P w K mg base 6 "_law_single_right" (He.ga K "_law_single_right") d_F__law_single_right ["_law_purse_here"] spSingleRight := ⟨ok_singleRight F__law_single_right T.b7 T.bC T.bN T.bL T.list T.tH draw of_ far shown is_ ruleS tooM singOk singB singM F_single.kp kS CF, F__law_single_right.binds fun _ _ _ _ _ _ us hl => match us, hl with | [_], _ => rfl, h_glob X G c (by decide +kernel), F__law_single_right.kp⟩
  have right : Fn' P w K mg base 7 "_law_right" (He.ga K "_law_right") d_F__law_right ["_law_purse_here"] spRight := ⟨ok_right F__law_right T.b7 T.bC T.bL T.tH far shown is_ numb cR sR CF, F__law_right.binds fun _ _ _ _ _ _ us hl => match us, hl with | [_], _ => rfl, h_glob X G c (by decide +kernel), F__law_right.kp⟩
  exact ok_law F_law T.b7 T.bL.all T.bM cell purse right
end
end L2.EH
end S_M5
set_option maxRecDepth 100000
set_option maxHeartbeats 0
open PySem PySem.W PySem.Calls PyProof.Rows
theorem PySem.Challenge.cw_halverules_k02_constants_n_and_singles_holds : PySem.Challenge.rw_halverules_k02_constants_n_and_singles.Holds :=
  L2.EH.head_gives fun w mg fa h K KX G hmg c => by
    obtain ⟨fd, hb, hF⟩ := L2.EH.facts_law (P := (PySem.Challenge.rw_halverules_k02_constants_n_and_singles).prog) (w := w) KX G hmg c
    exact ⟨fd, L2.EH.spLaw K, hb, fun H a ns hl _ hS => ⟨a, ns, rfl, hS, hl, fun _ => rfl⟩, hF⟩
