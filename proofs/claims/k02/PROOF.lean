import PyProof.Rows.All
import Wide.All
import OpenK.AllK
import Wide.FinOn
import KE.KStateDown
import KE.KMathGC
import KE.DataMinMax
import KE.SortData
import PyProof.ReprRoads
import HandS.ForMost
import HandS.Wide
import HandS.WideBits
import HandS.Gcd
import HandS.Style
import HandS.Sort
import HandS.SortRule
import HandS.SortInts
import HandS.DictComp
import HandS.Zip
import HandS.TupAny
import HandS.TupMul
import HandS.IsInst
import HandS.Flow
import HandS.Conv
import HandS.Defaults
import HandS.Head0
import HandS.Head1
import HandS.Head2
import HandS.Head3
import HandS.HeadEnd
import HandS.HeadHook1
import HandS.HeadHook2
import HandS.HeadHook3
import HandS.HeadHook4
import HandS.Walk
import KE.GoesZip
import KE.GoesMore
import PyProof.FitsInt
import PyProof.TupleOfSeq
import KE.KRevSl
import HandS.SetFor
import HandS.Strs
import HandS.RaiseMore
import HandS.Text
import PySem.Challenge.RW_toldamounts_k02_whole_sums_and_multiples
import Flt.RightSqrt
set_option Elab.async false
set_option linter.all false
set_option maxRecDepth 100000
set_option maxHeartbeats 4000000
/-! whole numbers: primes, how often a prime divides, lists of prime powers -/
namespace Am
/-- a prime -/
def Pr (p : Nat) : Prop := 2 ≤ p ∧ ∀ d, d ∣ p → d = 1 ∨ d = p
theorem Pr.two {p : Nat} (h : Pr p) : 2 ≤ p := h.1
theorem Pr.pos {p : Nat} (h : Pr p) : 0 < p := Nat.lt_of_lt_of_le Nat.zero_lt_two h.1
theorem Pr.euclid {p a b : Nat} (hp : Pr p) (h : p ∣ a * b) : p ∣ a ∨ p ∣ b := by
  rcases hp.2 (Nat.gcd p a) (Nat.gcd_dvd_left p a) with e | e
  · exact .inr (Nat.Coprime.dvd_of_dvd_mul_left (show Nat.Coprime p a from e) h)
  · exact .inl (e ▸ Nat.gcd_dvd_right p a)
/-- how often p divides n -/
def vp (p n : Nat) : Nat := if h : 2 ≤ p ∧ 0 < n ∧ n % p = 0 then vp p (n / p) + 1 else 0
termination_by n
decreasing_by exact Nat.div_lt_self h.2.1 h.1
theorem vp_yes {p n : Nat} (hp : 2 ≤ p) (hn : 0 < n) (h : n % p = 0) : vp p n = vp p (n / p) + 1 := by
  rw [vp]; exact dif_pos ⟨hp, hn, h⟩
theorem vp_no {p n : Nat} (h : n % p ≠ 0) : vp p n = 0 := by
  rw [vp]; exact dif_neg (fun z => h z.2.2)
theorem vp_zero {p : Nat} : vp p 0 = 0 := by
  rw [vp]; exact dif_neg (fun z => Nat.lt_irrefl 0 z.2.1)
theorem vp_mul_self {p n : Nat} (hp : 2 ≤ p) (hn : 0 < n) : vp p (p * n) = vp p n + 1 := by
  have h1 : 0 < p * n := Nat.mul_pos (by omega) hn
  rw [vp_yes hp h1 (Nat.mul_mod_right p n), Nat.mul_div_cancel_left n (by omega)]
theorem vp_mul {p : Nat} (hp : Pr p) : ∀ (a b : Nat), 0 < a → 0 < b → vp p (a * b) = vp p a + vp p b := by
  intro a
  induction a using Nat.strongRecOn with
  | _ a ih =>
    intro b ha hb
    by_cases h : a % p = 0
    · obtain ⟨c, rfl⟩ := Nat.dvd_of_mod_eq_zero h
      have hc : 0 < c := Nat.pos_of_mul_pos_left ha
      rw [Nat.mul_assoc, vp_mul_self hp.1 (Nat.mul_pos hc hb), vp_mul_self hp.1 hc, ih c (by have := hp.1; calc c < 2 * c := by omega
                                                                                                 _ ≤ p * c := Nat.mul_le_mul_right c this) b hc hb]
      omega
    · rw [vp_no h, Nat.zero_add]
      clear ih
      induction b using Nat.strongRecOn with
      | _ b ih2 =>
        by_cases h2 : b % p = 0
        · obtain ⟨c, rfl⟩ := Nat.dvd_of_mod_eq_zero h2
          have hc : 0 < c := Nat.pos_of_mul_pos_left hb
          rw [Nat.mul_left_comm, vp_mul_self hp.1 (Nat.mul_pos ha hc), vp_mul_self hp.1 hc, ih2 c (by have := hp.1; calc c < 2 * c := by omega
                                                                                                 _ ≤ p * c := Nat.mul_le_mul_right c this) hc]
        · rw [vp_no h2]
          apply vp_no
          intro z
          rcases hp.euclid (Nat.dvd_of_mod_eq_zero z) with q | q
          · exact h (Nat.mod_eq_zero_of_dvd q)
          · exact h2 (Nat.mod_eq_zero_of_dvd q)
theorem vp_one {p : Nat} (hp : 2 ≤ p) : vp p 1 = 0 := by
  apply vp_no
  rw [Nat.mod_eq_of_lt (by omega)]; omega
theorem vp_pow {p a : Nat} (hp : Pr p) (ha : 0 < a) : ∀ k, vp p (a ^ k) = k * vp p a
  | 0 => by rw [Nat.pow_zero, vp_one hp.1, Nat.zero_mul]
  | k + 1 => by
    rw [Nat.pow_succ, vp_mul hp _ _ (Nat.pow_pos ha) ha, vp_pow hp ha k, Nat.succ_mul]
theorem vp_self {p : Nat} (hp : Pr p) : vp p p = 1 := by
  have := vp_mul_self hp.1 Nat.one_pos
  rw [Nat.mul_one, vp_one hp.1] at this
  exact this
theorem vp_other {p q : Nat} (hp : Pr p) (hq : Pr q) (h : p ≠ q) : vp p q = 0 := by
  apply vp_no
  intro z
  rcases hq.2 p (Nat.dvd_of_mod_eq_zero z) with e | e
  · have := hp.1; omega
  · exact h e
theorem vp_dvd {p : Nat} (hp : 2 ≤ p) : ∀ n, 0 < n → p ^ vp p n ∣ n := by
  intro n
  induction n using Nat.strongRecOn with
  | _ n ih =>
    intro hn
    by_cases h : n % p = 0
    · obtain ⟨c, rfl⟩ := Nat.dvd_of_mod_eq_zero h
      have hc : 0 < c := Nat.pos_of_mul_pos_left hn
      rw [vp_mul_self hp hc, Nat.pow_succ, Nat.mul_comm]
      exact Nat.mul_dvd_mul_left p (ih c (by calc c < 2 * c := by omega
                                               _ ≤ p * c := Nat.mul_le_mul_right c hp) hc)
    · rw [vp_no h, Nat.pow_zero]; exact Nat.one_dvd n
theorem vp_le {p n k : Nat} (hp : 2 ≤ p) (hn : 0 < n) (h : n < 2 ^ (k + 1)) : vp p n ≤ k := by
  have h1 : p ^ vp p n ≤ n := Nat.le_of_dvd hn (vp_dvd hp n hn)
  have h2 : 2 ^ vp p n ≤ p ^ vp p n := Nat.pow_le_pow_left hp _
  have h3 : 2 ^ vp p n < 2 ^ (k + 1) := by omega
  have h4 := (Nat.pow_lt_pow_iff_right (a := 2) (by omega)).mp h3
  omega
/-- a prime that divides is not above -/
theorem vp_pos_le {p n : Nat} (hn : 0 < n) (h : vp p n ≠ 0) : p ≤ n := by
  by_cases z : n % p = 0
  · exact Nat.le_of_dvd hn (Nat.dvd_of_mod_eq_zero z)
  · exact absurd (vp_no z) h
/-! prime powers in a list -/
/-- the product -/
def pprod : List (Nat × Nat) → Nat
  | [] => 1
  | q :: r => q.1 ^ q.2 * pprod r
theorem pprod_append : ∀ a b : List (Nat × Nat), pprod (a ++ b) = pprod a * pprod b
  | [], b => by simp [pprod]
  | q :: r, b => by simp only [List.cons_append, pprod]; rw [pprod_append r b, Nat.mul_assoc]
/-- ascending primes with powers above 0, of this product -/
structure PF (n : Nat) (L : List (Nat × Nat)) : Prop where
  asc : L.Pairwise (fun a b => a.1 < b.1)
  pr : ∀ q ∈ L, Pr q.1 ∧ 0 < q.2
  prod : pprod L = n
def look (L : List (Nat × Nat)) (p : Nat) : Nat := (L.lookup p).getD 0
theorem pprod_pos {L : List (Nat × Nat)} (h : ∀ q ∈ L, Pr q.1 ∧ 0 < q.2) : 0 < pprod L := by
  induction L with
  | nil => exact Nat.one_pos
  | cons q r ih =>
    exact Nat.mul_pos (Nat.pow_pos (h q List.mem_cons_self).1.pos) (ih fun z hz => h z (List.mem_cons_of_mem _ hz))
theorem look_above {L : List (Nat × Nat)} {p : Nat} (h : ∀ q ∈ L, q.1 ≠ p) : look L p = 0 := by
  induction L with
  | nil => rfl
  | cons q r ih =>
    unfold look
    rw [List.lookup_cons]
    have h1 : (p == q.1) = false := by simpa using fun z : p = q.1 => h q List.mem_cons_self z.symm
    rw [h1]
    exact ih fun z hz => h z (List.mem_cons_of_mem _ hz)
theorem vp_pprod {p : Nat} (hp : Pr p) : ∀ {L : List (Nat × Nat)}, L.Pairwise (fun a b => a.1 < b.1) → (∀ q ∈ L, Pr q.1 ∧ 0 < q.2) → vp p (pprod L) = look L p
  | [], _, _ => vp_one hp.1
  | q :: r, h, hr => by
    obtain ⟨h1, h2⟩ := List.pairwise_cons.mp h
    have hq := hr q List.mem_cons_self
    have hr' : ∀ z ∈ r, Pr z.1 ∧ 0 < z.2 := fun z hz => hr z (List.mem_cons_of_mem _ hz)
    show vp p (q.1 ^ q.2 * pprod r) = _
    rw [vp_mul hp _ _ (Nat.pow_pos hq.1.pos) (pprod_pos hr'), vp_pow hp hq.1.pos, vp_pprod hp h2 hr']
    by_cases e : p = q.1
    · subst e
      rw [vp_self hq.1, Nat.mul_one, look_above (fun z hz => Nat.ne_of_gt (h1 z hz))]
      unfold look
      rw [List.lookup_cons]
      simp
    · rw [vp_other hp hq.1 e, Nat.mul_zero, Nat.zero_add]
      unfold look
      rw [List.lookup_cons]
      have h3 : (p == q.1) = false := by simpa using e
      rw [h3]
theorem PF.look {n : Nat} {L : List (Nat × Nat)} (h : PF n L) {p : Nat} (hp : Pr p) : look L p = vp p n := by
  rw [← h.prod, vp_pprod hp h.asc h.pr]
end Am
namespace Am
/-- no divisor up to the root -/
theorem pr_root {n r : Nat} (hn : 2 ≤ n) (h1 : r * r ≤ n) (h2 : n < (r + 1) * (r + 1)) : (∀ d, 2 ≤ d → d < r + 1 → n % d ≠ 0) ↔ Pr n := by
  constructor
  · intro h
    refine ⟨hn, fun d hd => ?_⟩
    obtain ⟨e, he⟩ := hd
    by_cases d1 : d = 1
    · exact .inl d1
    by_cases dn : d = n
    · exact .inr dn
    exfalso
    have d0 : d ≠ 0 := by rintro rfl; omega
    have e0 : e ≠ 0 := by rintro rfl; omega
    have e1 : e ≠ 1 := by rintro rfl; omega
    by_cases c : d < r + 1
    · exact h d (by omega) c (by rw [he]; exact Nat.mul_mod_right d e)
    · by_cases c2 : e < r + 1
      · exact h e (by omega) c2 (by rw [he, Nat.mul_comm]; exact Nat.mul_mod_right e d)
      · have : (r + 1) * (r + 1) ≤ d * e := Nat.mul_le_mul (by omega) (by omega)
        omega
  · intro h d hd hr z
    rcases h.2 d (Nat.dvd_of_mod_eq_zero z) with e | e
    · omega
    · subst e
      have : 2 * d ≤ d * d := Nat.mul_le_mul_right d hd
      have : d * d ≤ r * r := Nat.mul_le_mul (by omega) (by omega)
      omega
end Am

namespace Am
/-! amounts in their one form -/
/-- the greatest common divisor, from the left -/
def gl (b : Int) (cs : List Int) : Int := cs.foldl (fun g c => ((Nat.gcd g.natAbs c.natAbs : Nat) : Int)) b
theorem gl_cons (b c : Int) (cs : List Int) : gl b (c :: cs) = gl ((Nat.gcd b.natAbs c.natAbs : Nat) : Int) cs := rfl
theorem gl_dvd : ∀ (cs : List Int) (b : Int), gl b cs ∣ b ∧ ∀ c ∈ cs, gl b cs ∣ c
  | [], b => ⟨Int.dvd_refl b, by simp⟩
  | c :: cs, b => by
    rw [gl_cons]
    obtain ⟨h1, h2⟩ := gl_dvd cs ((Nat.gcd b.natAbs c.natAbs : Nat) : Int)
    have db : ((Nat.gcd b.natAbs c.natAbs : Nat) : Int) ∣ b := Int.natAbs_dvd_natAbs.mp (by rw [Int.natAbs_natCast]; exact Nat.gcd_dvd_left _ _)
    have dc : ((Nat.gcd b.natAbs c.natAbs : Nat) : Int) ∣ c := Int.natAbs_dvd_natAbs.mp (by rw [Int.natAbs_natCast]; exact Nat.gcd_dvd_right _ _)
    refine ⟨Int.dvd_trans h1 db, fun x hx => ?_⟩
    rcases List.mem_cons.mp hx with e | hx
    · rw [e]; exact Int.dvd_trans h1 dc
    · exact h2 x hx
theorem gl_greatest : ∀ (cs : List Int) (b g : Int), g ∣ b → (∀ c ∈ cs, g ∣ c) → g ∣ gl b cs
  | [], b, g, h, _ => h
  | c :: cs, b, g, h, hc => by
    rw [gl_cons]
    refine gl_greatest cs _ g ?_ fun x hx => hc x (List.mem_cons_of_mem _ hx)
    have h1 : g.natAbs ∣ b.natAbs := Int.natAbs_dvd_natAbs.mpr h
    have h2 : g.natAbs ∣ c.natAbs := Int.natAbs_dvd_natAbs.mpr (hc c List.mem_cons_self)
    exact Int.natAbs_dvd_natAbs.mp (by rw [Int.natAbs_natCast]; exact Nat.dvd_gcd h1 h2)
theorem gl_pos : ∀ (cs : List Int) (b : Int), 0 < b → 0 < gl b cs
  | [], b, h => h
  | c :: cs, b, h => by
    rw [gl_cons]
    refine gl_pos cs _ ?_
    have : 0 < Nat.gcd b.natAbs c.natAbs := Nat.gcd_pos_of_pos_left _ (by omega)
    omega
theorem gl_le (cs : List Int) {b : Int} (h : 0 < b) : gl b cs ≤ b := Int.le_of_dvd h (gl_dvd cs b).1
theorem gl_mul : ∀ (cs : List Int) (b k : Int), 0 < b → 0 < k → gl (b * k) (cs.map (· * k)) = gl b cs * k
  | [], b, k, _, _ => rfl
  | c :: cs, b, k, hb, hk => by
    rw [List.map_cons, gl_cons, gl_cons]
    have e : ((Nat.gcd (b * k).natAbs (c * k).natAbs : Nat) : Int) = ((Nat.gcd b.natAbs c.natAbs : Nat) : Int) * k := by
      rw [Int.natAbs_mul, Int.natAbs_mul, Nat.gcd_mul_right, Int.natCast_mul]
      congr 1
      omega
    rw [e]
    refine gl_mul cs _ k ?_ hk
    have : 0 < Nat.gcd b.natAbs c.natAbs := Nat.gcd_pos_of_pos_left _ (by omega)
    omega
/-- d.get(k, 0) -/
def ig (L : List (Int × Int)) (k : Int) : Int := (L.lookup k).getD 0
theorem ig_cons (q : Int × Int) (r : List (Int × Int)) (k : Int) : ig (q :: r) k = if k = q.1 then q.2 else ig r k := by
  unfold ig
  rw [List.lookup_cons]
  by_cases h : k = q.1
  · subst h; simp
  · have : (k == q.1) = false := by simpa using h
    rw [this, if_neg h]
theorem ig_none {L : List (Int × Int)} {k : Int} (h : ∀ q ∈ L, q.1 ≠ k) : ig L k = 0 := by
  induction L with
  | nil => rfl
  | cons q r ih =>
    rw [ig_cons, if_neg (fun z => h q List.mem_cons_self z.symm)]
    exact ih fun z hz => h z (List.mem_cons_of_mem _ hz)
theorem ig_mem {L : List (Int × Int)} (hn : (L.map (·.1)).Nodup) {q : Int × Int} (h : q ∈ L) : ig L q.1 = q.2 := by
  induction L with
  | nil => cases h
  | cons x r ih =>
    rw [List.map_cons, List.nodup_cons] at hn
    rw [ig_cons]
    rcases List.mem_cons.mp h with e | h
    · rw [e, if_pos rfl]
    · rw [if_neg, ih hn.2 h]
      intro z
      exact hn.1 (List.mem_map.mpr ⟨q, h, z⟩)
theorem ig_cases (L : List (Int × Int)) (k : Int) : ig L k = 0 ∨ (k, ig L k) ∈ L := by
  induction L with
  | nil => exact .inl rfl
  | cons q r ih =>
    rw [ig_cons]
    by_cases h : k = q.1
    · rw [if_pos h, h]; exact .inr List.mem_cons_self
    · rw [if_neg h]
      rcases ih with e | e
      · exact .inl e
      · exact .inr (List.mem_cons_of_mem _ e)
theorem asc_nodup {L : List (Int × Int)} (h : L.Pairwise (fun a b => a.1 < b.1)) : (L.map (·.1)).Nodup := by
  rw [List.Nodup, List.pairwise_map]
  exact h.imp fun {a b} z => by omega
/-- an amount in its one form -/
structure Cn (d : Int) (L : List (Int × Int)) : Prop where
  d1 : 0 < d
  asc : L.Pairwise (fun a b => a.1 < b.1)
  pr : ∀ q ∈ L, ∃ p : Nat, q.1 = p ∧ Pr p ∧ p < 1000000
  nz : ∀ q ∈ L, q.2 ≠ 0
  gcd : gl d (L.map (·.2)) = 1
theorem asc_ext : ∀ {L M : List (Int × Int)}, L.Pairwise (fun a b => a.1 < b.1) → M.Pairwise (fun a b => a.1 < b.1) → (∀ q ∈ L, q.2 ≠ 0) → (∀ q ∈ M, q.2 ≠ 0) → (∀ p, ig L p = ig M p) → L = M
  | [], [], _, _, _, _, _ => rfl
  | [], b :: M, _, _, _, hm, h => by
    have := h b.1
    rw [ig_cons, if_pos rfl] at this
    exact absurd this.symm (hm b List.mem_cons_self)
  | a :: L, [], _, _, hl, _, h => by
    have := h a.1
    rw [ig_cons, if_pos rfl] at this
    exact absurd this (hl a List.mem_cons_self)
  | a :: L, b :: M, hL, hM, hl, hm, h => by
    obtain ⟨a1, a2⟩ := List.pairwise_cons.mp hL
    obtain ⟨b1, b2⟩ := List.pairwise_cons.mp hM
    have na := hl a List.mem_cons_self
    have nb := hm b List.mem_cons_self
    have la : ∀ p, p ≤ a.1 → ig L p = 0 := fun p hp => ig_none fun q hq z => by have := a1 q hq; omega
    have lb : ∀ p, p ≤ b.1 → ig M p = 0 := fun p hp => ig_none fun q hq z => by have := b1 q hq; omega
    have e1 : a.1 = b.1 := by
      rcases Int.lt_trichotomy a.1 b.1 with z | z | z
      · exfalso
        have := h a.1
        rw [ig_cons, if_pos rfl, ig_cons, if_neg (by omega), lb _ (by omega)] at this
        exact na this
      · exact z
      · exfalso
        have := h b.1
        rw [ig_cons, if_neg (by omega), la _ (by omega), ig_cons, if_pos rfl] at this
        exact nb this.symm
    have e2 : a.2 = b.2 := by
      have := h a.1
      rw [ig_cons, if_pos rfl, ig_cons, if_pos e1] at this
      exact this
    have e3 : L = M := by
      refine asc_ext a2 b2 (fun q hq => hl q (List.mem_cons_of_mem _ hq)) (fun q hq => hm q (List.mem_cons_of_mem _ hq)) fun p => ?_
      by_cases hp : p = a.1
      · rw [la p (by omega), lb p (by omega)]
      · have := h p
        rw [ig_cons, if_neg hp, ig_cons, if_neg (by omega)] at this
        exact this
    rw [e3, Prod.ext e1 e2]
/-- the divisor of a form divides what it was divided from -/
theorem Cn.dvd_of {d k : Int} {L : List (Int × Int)} (c : Cn d L) (hk : 0 < k) (h : ∀ q ∈ L, d ∣ q.2 * k) : d ∣ k := by
  have h1 : d ∣ gl (d * k) ((L.map (·.2)).map (· * k)) := by
    refine gl_greatest _ _ _ (Int.dvd_mul_right d k) fun x hx => ?_
    obtain ⟨y, hy, rfl⟩ := List.mem_map.mp hx
    obtain ⟨q, hq, rfl⟩ := List.mem_map.mp hy
    exact h q hq
  rw [gl_mul _ _ _ c.d1 hk, c.gcd, Int.one_mul] at h1
  exact h1
/-- one number, one form -/
theorem Cn.unique {d e : Int} {L M : List (Int × Int)} (c : Cn d L) (c' : Cn e M) (h : ∀ p, ig L p * e = ig M p * d) : d = e ∧ L = M := by
  have nL := asc_nodup c.asc
  have nM := asc_nodup c'.asc
  have h1 : d ∣ e := c.dvd_of c'.d1 fun q hq => by
    rw [← ig_mem nL hq, h]; exact Int.dvd_mul_left _ d
  have h2 : e ∣ d := c'.dvd_of c.d1 fun q hq => by
    rw [← ig_mem nM hq, ← h]; exact Int.dvd_mul_left _ e
  have a1 := Int.le_of_dvd c'.d1 h1
  have a2 := Int.le_of_dvd c.d1 h2
  have de : d = e := by omega
  refine ⟨de, asc_ext c.asc c'.asc c.nz c'.nz fun p => ?_⟩
  have := h p
  rw [de] at this
  exact Int.eq_of_mul_eq_mul_right (by have := c'.d1; omega) this
/-- what stands for f / B -/
def St4 (d : Int) (L : List (Int × Int)) (B : Int) (f : Int → Int) : Prop := Cn d L ∧ ∀ p, ig L p * B = f p * d
theorem St4.unique {d e B C : Int} {L M : List (Int × Int)} {f g : Int → Int} (a : St4 d L B f) (b : St4 e M C g) (hB : 0 < B) (hC : 0 < C) (h : ∀ p, f p * C = g p * B) : d = e ∧ L = M := by
  refine a.1.unique b.1 fun p => ?_
  have h1 := a.2 p
  have h2 := b.2 p
  have h3 := h p
  have d0 := a.1.d1
  have e0 := b.1.d1
  -- (x e) (B C) = (y d) (B C)
  have : (ig L p * e) * (B * C) = (ig M p * d) * (B * C) := by
    calc (ig L p * e) * (B * C) = (ig L p * B) * (e * C) := by ac_rfl
      _ = (f p * d) * (e * C) := by rw [h1]
      _ = (f p * C) * (d * e) := by ac_rfl
      _ = (g p * B) * (d * e) := by rw [h3]
      _ = (g p * e) * (B * d) := by ac_rfl
      _ = (ig M p * C) * (B * d) := by rw [h2]
      _ = (ig M p * d) * (B * C) := by ac_rfl
  exact Int.eq_of_mul_eq_mul_right (by have := Int.mul_pos hB hC; omega) this
theorem St4.dvd {d B : Int} {L : List (Int × Int)} {f : Int → Int} (a : St4 d L B f) (hB : 0 < B) : d ∣ B :=
  a.1.dvd_of hB fun q hq => by rw [← ig_mem (asc_nodup a.1.asc) hq, a.2]; exact Int.dvd_mul_left _ d
theorem St4.le {d B : Int} {L : List (Int × Int)} {f : Int → Int} (a : St4 d L B f) (hB : 0 < B) : d ≤ B := Int.le_of_dvd hB (a.dvd hB)
/-- the parts are no greater than what they come from -/
theorem St4.abs {d B : Int} {L : List (Int × Int)} {f : Int → Int} (a : St4 d L B f) (hB : 0 < B) (p : Int) : (ig L p).natAbs ≤ (f p).natAbs := by
  have h1 := congrArg Int.natAbs (a.2 p)
  rw [Int.natAbs_mul, Int.natAbs_mul] at h1
  have h2 := a.le hB
  have h3 := a.1.d1
  have h4 : (f p).natAbs * d.natAbs ≤ (f p).natAbs * B.natAbs := Nat.mul_le_mul_left _ (by omega)
  rw [← h1] at h4
  exact Nat.le_of_mul_le_mul_right h4 (by omega)
theorem St4.zero {d B : Int} {L : List (Int × Int)} {f : Int → Int} (a : St4 d L B f) (hB : 0 < B) {q : Int × Int} (hq : q ∈ L) : f q.1 ≠ 0 := by
  intro z
  have h1 := a.2 q.1
  rw [z, Int.zero_mul, ig_mem (asc_nodup a.1.asc) hq] at h1
  rcases Int.mul_eq_zero.mp h1 with e | e
  · exact a.1.nz q hq e
  · omega
/-- how a form is made of a dict: the parts other than 0, divided -/
theorem cn_made {b : Int} {L ys : List (Int × Int)} (hb : 0 < b) (hn : (L.map (·.1)).Nodup) (hp : ∀ q ∈ L, ∃ p : Nat, q.1 = p ∧ Pr p ∧ p < 1000000)
    (perm : ys.Perm ((L.filter fun q => decide (q.2 ≠ 0)).map fun q => (q.1, q.2 / gl b (L.map (·.2))))) (srt : ys.Pairwise (fun a b => a.1 < b.1)) :
    St4 (b / gl b (L.map (·.2))) ys b (ig L) := by
  have g0 := gl_pos (L.map (·.2)) b hb
  obtain ⟨gb, gc⟩ := gl_dvd (L.map (·.2)) b
  generalize eg : gl b (L.map (·.2)) = g at *
  have mem : ∀ q ∈ ys, ∃ x ∈ L, x.2 ≠ 0 ∧ q = (x.1, x.2 / g) := fun q hq => by
    obtain ⟨x, hx, e⟩ := List.mem_map.mp (perm.mem_iff.mp hq)
    obtain ⟨h1, h2⟩ := List.mem_filter.mp hx
    exact ⟨x, h1, by simpa using h2, e.symm⟩
  have gx : ∀ x ∈ L, g ∣ x.2 := fun x hx => gc x.2 (List.mem_map.mpr ⟨x, hx, rfl⟩)
  obtain ⟨b', hb'⟩ := gb
  have bd : b / g = b' := by rw [hb']; exact Int.mul_ediv_cancel_left b' (by omega)
  have b'0 : 0 < b' := by
    rw [hb'] at hb
    exact Int.pos_of_mul_pos_right (b := b') (by exact hb) g0 |> fun h => h
  have igs : ∀ p, ig ys p * g = ig L p := fun p => by
    rcases ig_cases L p with e | e
    · rw [e]
      have : ig ys p = 0 := by
        apply ig_none
        intro q hq z
        obtain ⟨x, hx, nz, rfl⟩ := mem q hq
        have e2 := ig_mem hn hx
        have z' : x.1 = p := z
        rw [z', e] at e2
        exact nz e2.symm
      rw [this, Int.zero_mul]
    · by_cases z : ig L p = 0
      · rw [z]
        have : ig ys p = 0 := by
          apply ig_none
          intro q hq y
          obtain ⟨x, hx, nz, rfl⟩ := mem q hq
          have e2 := ig_mem hn hx
          have y' : x.1 = p := y
          rw [y', z] at e2
          exact nz e2.symm
        rw [this, Int.zero_mul]
      · have m1 : (p, ig L p / g) ∈ ys := by
          refine perm.mem_iff.mpr (List.mem_map.mpr ⟨(p, ig L p), List.mem_filter.mpr ⟨e, by simpa using z⟩, rfl⟩)
        have e2 := ig_mem (asc_nodup srt) m1
        have e2' : ig ys p = ig L p / g := e2
        rw [e2']
        exact Int.ediv_mul_cancel (gx _ e)
  refine ⟨⟨?_, srt, ?_, ?_, ?_⟩, fun p => ?_⟩
  · rw [bd]; exact b'0
  · intro q hq
    obtain ⟨x, hx, _, rfl⟩ := mem q hq
    exact hp x hx
  · intro q hq
    obtain ⟨x, hx, nz, rfl⟩ := mem q hq
    intro z
    have z' : x.2 / g = 0 := z
    have := Int.ediv_mul_cancel (gx x hx)
    rw [z', Int.zero_mul] at this
    exact nz this.symm
  · -- a common divisor h of the divided ones, times g, divides all; so it is 1
    have h0 := gl_pos (ys.map (·.2)) (b / g) (by rw [bd]; exact b'0)
    obtain ⟨hd1, hd2⟩ := gl_dvd (ys.map (·.2)) (b / g)
    generalize gl (b / g) (ys.map (·.2)) = h at *
    have hb2 : h * g ∣ b := by
      rw [bd] at hd1
      obtain ⟨c, hc⟩ := hd1
      exact ⟨c, by rw [hb', hc]; ac_rfl⟩
    have hg : h * g ∣ g := by
      conv => rhs; rw [← eg]
      refine gl_greatest _ _ _ hb2 fun c hc => ?_
      obtain ⟨x, hx, rfl⟩ := List.mem_map.mp hc
      have e1 := ig_mem hn hx
      rw [← e1, ← igs]
      rcases ig_cases ys x.1 with z | z
      · rw [z, Int.zero_mul]; exact Int.dvd_zero _
      · obtain ⟨c, hc⟩ := hd2 (ig ys x.1) (List.mem_map.mpr ⟨_, z, rfl⟩)
        exact ⟨c, by rw [hc]; ac_rfl⟩
    have := Int.le_of_dvd g0 hg
    have h1 : ¬ 2 ≤ h := fun z => by
      have : 2 * g ≤ h * g := Int.mul_le_mul_of_nonneg_right z (by omega)
      omega
    omega
  · rw [bd, hb', ← igs p]; ac_rfl
end Am

namespace Am
open Classical
/-! sums of logarithms, by primes -/
/-- how often p divides n, as an int -/
def vi (p n : Int) : Int := ((vp p.toNat n.toNat : Nat) : Int)
/-- the factor of log p in the sum of f log n over the pairs (f, n) -/
noncomputable def lg (M : List (Int × Int)) (p : Int) : Int := if 0 ≤ p ∧ Pr p.toNat then (M.map fun q => q.1 * vi p q.2).sum else 0
theorem lg_nil (p : Int) : lg [] p = 0 := by unfold lg; split <;> rfl
theorem lg_append (M N : List (Int × Int)) (p : Int) : lg (M ++ N) p = lg M p + lg N p := by
  unfold lg
  split
  · rw [List.map_append, List.sum_append]
  · rfl
theorem lg_pr (M : List (Int × Int)) {p : Nat} (h : Pr p) : lg M p = (M.map fun q => q.1 * vi p q.2).sum := by
  unfold lg
  rw [if_pos ⟨by omega, by rw [Int.toNat_natCast]; exact h⟩]
theorem lg_no (M : List (Int × Int)) {p : Int} (h : ¬ ∃ n : Nat, p = n ∧ Pr n) : lg M p = 0 := by
  unfold lg
  rw [if_neg]
  intro z
  exact h ⟨p.toNat, by omega, z.2⟩
theorem lg_one (f n p : Int) : lg [(f, n)] p = if 0 ≤ p ∧ Pr p.toNat then f * vi p n else 0 := by
  unfold lg
  split
  · simp
  · rfl
/-- ints without repeats within 0 .. m are no more than m + 1 -/
theorem nodup_le : ∀ (m : Nat) (l : List Int), l.Nodup → (∀ x ∈ l, 0 ≤ x ∧ x < m) → l.length ≤ m
  | 0, l, _, h => by
    cases l with
    | nil => exact Nat.le_refl _
    | cons x r => have := h x List.mem_cons_self; omega
  | m + 1, l, nd, h => by
    have h1 := nodup_le m (l.filter fun x => decide (x ≠ (m : Int))) (nd.sublist List.filter_sublist) (fun x hx => by
      obtain ⟨a, b⟩ := List.mem_filter.mp hx
      have := h x a
      have : x ≠ (m : Int) := by simpa using b
      omega)
    have h2 : l.length ≤ (l.filter fun x => decide (x ≠ (m : Int))).length + 1 := by
      clear h1
      induction l with
      | nil => simp
      | cons x r ih =>
        obtain ⟨n1, n2⟩ := List.nodup_cons.mp nd
        by_cases e : x = (m : Int)
        · have e2 : (r.filter fun x => decide (x ≠ (m : Int))) = r := by
            rw [List.filter_eq_self]
            intro y hy
            have : y ≠ (m : Int) := fun z => n1 (by rw [e, ← z]; exact hy)
            simpa using this
          rw [List.filter_cons_of_neg (by simp [e]), e2, List.length_cons]
          omega
        · rw [List.filter_cons_of_pos (by simpa using e), List.length_cons, List.length_cons]
          have := ih n2 (fun y hy => h y (List.mem_cons_of_mem _ hy))
          omega
    omega
end Am

namespace Am
/-! the law's own greatest common divisor -/
def SS (a b : Int) : Prop := (0 ≤ a ∧ 0 ≤ b) ∨ (a ≤ 0 ∧ b ≤ 0)
theorem fm_neg (a b : Int) : a.fmod b = -((-a).fmod (-b)) := by rw [Int.neg_fmod_neg, Int.neg_neg]
theorem fm_gcd (a b : Int) : Nat.gcd b.natAbs (a.fmod b).natAbs = Nat.gcd a.natAbs b.natAbs := by
  have key : ∀ d : Nat, d ∣ b.natAbs → (d ∣ (a.fmod b).natAbs ↔ d ∣ a.natAbs) := by
    intro d h
    rw [← Int.ofNat_dvd_left, ← Int.ofNat_dvd_left, Int.fmod_def]
    have hb : (d : Int) ∣ b := Int.ofNat_dvd_left.mpr h
    have h2 : (d : Int) ∣ b * a.fdiv b := Int.dvd_trans hb ⟨_, rfl⟩
    constructor
    · intro z
      have := Int.dvd_add z h2
      rwa [Int.sub_add_cancel] at this
    · intro z; exact Int.dvd_sub z h2
  apply Nat.dvd_antisymm
  · refine Nat.dvd_gcd ?_ (Nat.gcd_dvd_left _ _)
    exact (key _ (Nat.gcd_dvd_left _ _)).mp (Nat.gcd_dvd_right _ _)
  · refine Nat.dvd_gcd (Nat.gcd_dvd_right _ _) ?_
    exact (key _ (Nat.gcd_dvd_right _ _)).mpr (Nat.gcd_dvd_left _ _)
theorem fm_small {a b : Int} (hb : b ≠ 0) : (a.fmod b).natAbs < b.natAbs ∧ SS b (a.fmod b) := by
  by_cases h : 0 < b
  · have h1 := Int.fmod_lt_of_pos a h
    have h2 := Int.fmod_nonneg_of_pos a h
    exact ⟨by omega, .inl ⟨by omega, h2⟩⟩
  · have hn : 0 < -b := by omega
    have h1 := Int.fmod_lt_of_pos (-a) hn
    have h2 := Int.fmod_nonneg_of_pos (-a) hn
    have e := fm_neg a b
    exact ⟨by omega, .inr ⟨by omega, by omega⟩⟩
theorem nat_half {x y : Nat} (hy : 0 < y) (h : y ≤ x) : 2 * (x % y) < x := by
  have h1 := Nat.mod_lt x hy
  have h2 := Nat.div_add_mod x y
  have h3 : 1 ≤ x / y := (Nat.one_le_div_iff hy).mpr h
  have h4 : y * 1 ≤ y * (x / y) := Nat.mul_le_mul_left _ h3
  omega
theorem fm_half {a b : Int} (hb : b ≠ 0) (s : SS a b) (h : b.natAbs ≤ a.natAbs) : 2 * (a.fmod b).natAbs < a.natAbs := by
  have pos : ∀ x y : Int, 0 ≤ x → 0 < y → y.natAbs ≤ x.natAbs → 2 * (x.fmod y).natAbs < x.natAbs := by
    intro x y hx hy hl
    obtain ⟨n, rfl⟩ := Int.eq_ofNat_of_zero_le hx
    obtain ⟨m, rfl⟩ := Int.eq_ofNat_of_zero_le (Int.le_of_lt hy)
    rw [Int.fmod_eq_emod_of_nonneg _ (by omega)]
    have := nat_half (x := n) (y := m) (by omega) (by omega)
    have e : ((n : Int) % (m : Int)).natAbs = n % m := by
      rw [← Int.natCast_emod, Int.natAbs_natCast]
    rw [e, Int.natAbs_natCast]; exact this
  rcases s with ⟨h1, h2⟩ | ⟨h1, h2⟩
  · exact pos a b h1 (by omega) h
  · have := pos (-a) (-b) (by omega) (by omega) (by omega)
    rw [fm_neg a b]; omega
structure GI (g i : Nat) (a b : Int) : Prop where
  g : Nat.gcd a.natAbs b.natAbs = g
  m : (i = 0 ∧ b.natAbs < 2 ^ 64) ∨ (SS a b ∧ b.natAbs < a.natAbs ∧ a.natAbs * b.natAbs * 2 ^ (i - 1) < 2 ^ 128)
theorem GI.step {g i : Nat} {a b : Int} (h : GI g i a b) (hb : b ≠ 0) : GI g (i + 1) b (a.fmod b) := by
  obtain ⟨f1, f2⟩ := fm_small (a := a) hb
  refine ⟨by rw [fm_gcd]; exact h.g, .inr ⟨f2, f1, ?_⟩⟩
  rcases h.m with ⟨rfl, h2⟩ | ⟨s, h1, h2⟩
  · show b.natAbs * (a.fmod b).natAbs * 2 ^ 0 < 2 ^ 128
    rw [Nat.pow_zero, Nat.mul_one]
    have : b.natAbs * (a.fmod b).natAbs < 2 ^ 64 * 2 ^ 64 := Nat.mul_lt_mul_of_lt_of_le h2 (by omega) (by omega)
    omega
  · have h3 := fm_half hb s (by omega)
    show b.natAbs * (a.fmod b).natAbs * 2 ^ i < 2 ^ 128
    cases i with
    | zero =>
      rw [Nat.pow_zero, Nat.mul_one]
      rw [show (0 - 1 : Nat) = 0 from rfl, Nat.pow_zero, Nat.mul_one] at h2
      have : b.natAbs * (a.fmod b).natAbs ≤ a.natAbs * b.natAbs := by
        rw [Nat.mul_comm]; exact Nat.mul_le_mul_right _ (by omega)
      omega
    | succ j =>
      rw [show j + 1 - 1 = j by omega] at h2
      rw [Nat.pow_succ]
      have : b.natAbs * (a.fmod b).natAbs * (2 ^ j * 2) ≤ a.natAbs * b.natAbs * 2 ^ j := by
        have e : b.natAbs * (a.fmod b).natAbs * (2 ^ j * 2) = (2 * (a.fmod b).natAbs) * b.natAbs * 2 ^ j := by
          simp only [Nat.mul_comm, Nat.mul_left_comm, Nat.mul_assoc]
        rw [e]
        exact Nat.mul_le_mul_right _ (Nat.mul_le_mul_right _ (by omega))
      omega
theorem GI.out {g i : Nat} {a b : Int} (h : GI g i a b) (hi : 129 ≤ i) : b = 0 := by
  rcases h.m with ⟨rfl, _⟩ | ⟨_, h1, h2⟩
  · omega
  · by_cases hb : b = 0
    · exact hb
    · exfalso
      have p1 : 1 ≤ a.natAbs * b.natAbs := Nat.mul_pos (by omega) (by omega)
      have p2 : 2 ^ 128 ≤ 2 ^ (i - 1) := Nat.pow_le_pow_right (by omega) (by omega)
      have p3 : 1 * 2 ^ (i - 1) ≤ a.natAbs * b.natAbs * 2 ^ (i - 1) := Nat.mul_le_mul_right _ p1
      omega
theorem GI.end {g i : Nat} {a : Int} (h : GI g i a 0) : a.natAbs = g := by
  have := h.g
  rwa [Int.natAbs_zero, Nat.gcd_zero_right] at this
/-- no divisor up to the root -/
theorem pr_sq {n : Nat} (hn : 2 ≤ n) : (∀ d, 2 ≤ d → d * d ≤ n → n % d ≠ 0) ↔ Pr n := by
  obtain ⟨r, h1, h2⟩ : ∃ r, r * r ≤ n ∧ n < (r + 1) * (r + 1) := by
    have : ∀ m, ∃ r, r * r ≤ m ∧ m < (r + 1) * (r + 1) := by
      intro m
      induction m with
      | zero => exact ⟨0, by omega, by omega⟩
      | succ m ih =>
        obtain ⟨r, a, b⟩ := ih
        by_cases c : (r + 1) * (r + 1) ≤ m + 1
        · refine ⟨r + 1, c, ?_⟩
          have : (r + 1 + 1) * (r + 1 + 1) = (r + 1) * (r + 1) + 2 * (r + 1) + 1 := by
            rw [Nat.add_mul, Nat.mul_add]; omega
          omega
        · exact ⟨r, by omega, by omega⟩
    exact this n
  rw [← pr_root hn h1 h2]
  constructor
  · intro h d d2 dr
    have : d * d ≤ r * r := Nat.mul_self_le_mul_self (by omega)
    exact h d d2 (by omega)
  · intro h d d2 dd
    refine h d d2 ?_
    apply Nat.lt_of_not_le
    intro z
    have := Nat.mul_self_le_mul_self z
    omega
end Am

namespace Am
/-! what is told by all primes -/
theorem prime_in : ∀ n : Nat, 2 ≤ n → ∃ p, Pr p ∧ p ∣ n := by
  intro n
  induction n using Nat.strongRecOn with
  | _ n ih =>
    intro h
    by_cases pr : Pr n
    · exact ⟨n, pr, Nat.dvd_refl _⟩
    · have : ∃ d, d ∣ n ∧ d ≠ 1 ∧ d ≠ n := by
        apply Classical.byContradiction
        intro z
        apply pr
        refine ⟨h, fun d hd => ?_⟩
        apply Classical.byContradiction
        intro y
        exact z ⟨d, hd, fun e => y (.inl e), fun e => y (.inr e)⟩
      obtain ⟨d, hd, d1, dn⟩ := this
      have dl := Nat.le_of_dvd (by omega) hd
      have d0 : d ≠ 0 := by
        rintro rfl
        have := Nat.eq_zero_of_zero_dvd hd
        omega
      obtain ⟨p, pp, pd⟩ := ih d (by omega) (by omega)
      exact ⟨p, pp, Nat.dvd_trans pd hd⟩
theorem vp_pos_of {p n : Nat} (hp : Pr p) (hn : 0 < n) (h : p ∣ n) : vp p n ≠ 0 := by
  rw [vp_yes hp.two hn (Nat.mod_eq_zero_of_dvd h)]; omega
theorem dvd_of_vp {p n : Nat} (h : vp p n ≠ 0) : p ∣ n := by
  apply Classical.byContradiction
  intro z
  exact h (vp_no fun y => z (Nat.dvd_of_mod_eq_zero y))
theorem eq_of_vp : ∀ a b : Nat, 0 < a → 0 < b → (∀ p, Pr p → vp p a = vp p b) → a = b := by
  intro a
  induction a using Nat.strongRecOn with
  | _ a ih =>
    intro b ha hb h
    by_cases a1 : a = 1
    · subst a1
      apply Classical.byContradiction
      intro z
      obtain ⟨p, pp, pd⟩ := prime_in b (by omega)
      have := h p pp
      rw [vp_one pp.two] at this
      exact vp_pos_of pp hb pd this.symm
    · obtain ⟨p, pp, pd⟩ := prime_in a (by omega)
      have hb2 : p ∣ b := dvd_of_vp (by rw [← h p pp]; exact vp_pos_of pp ha pd)
      obtain ⟨a', rfl⟩ := pd
      obtain ⟨b', rfl⟩ := hb2
      have p2 := pp.two
      have ha' : 0 < a' := Nat.pos_of_mul_pos_left ha
      have hb' : 0 < b' := Nat.pos_of_mul_pos_left hb
      have lt : a' < p * a' := by
        have : 2 * a' ≤ p * a' := Nat.mul_le_mul_right _ p2
        omega
      rw [ih a' lt b' ha' hb' fun q hq => ?_]
      have := h q hq
      rw [vp_mul hq _ _ (by omega) ha', vp_mul hq _ _ (by omega) hb'] at this
      omega
/-- two pairs of products compare alike if their primes are alike, by B and d -/
theorem cmp_alike {a b c e B d : Nat} (ha : 0 < a) (hb : 0 < b) (hc : 0 < c) (he : 0 < e) (hB : 0 < B) (hd : 0 < d)
    (h : ∀ p, Pr p → vp p a * B + vp p e * d = vp p c * d + vp p b * B) : (a < b ↔ c < e) ∧ (b < a ↔ e < c) := by
  have key : a ^ B * e ^ d = c ^ d * b ^ B := by
    refine eq_of_vp _ _ (Nat.mul_pos (Nat.pow_pos ha) (Nat.pow_pos he)) (Nat.mul_pos (Nat.pow_pos hc) (Nat.pow_pos hb)) fun p hp => ?_
    rw [vp_mul hp _ _ (Nat.pow_pos ha) (Nat.pow_pos he), vp_mul hp _ _ (Nat.pow_pos hc) (Nat.pow_pos hb), vp_pow hp ha, vp_pow hp he, vp_pow hp hc, vp_pow hp hb]
    have := h p hp
    rw [Nat.mul_comm B, Nat.mul_comm d, Nat.mul_comm d, Nat.mul_comm B]; exact this
  have lt_pow : ∀ {x y n : Nat}, 0 < n → (x < y ↔ x ^ n < y ^ n) := by
    intro x y n hn
    exact (Nat.pow_lt_pow_iff_left (by omega)).symm
  have pb : 0 < b ^ B := Nat.pow_pos hb
  have pe : 0 < e ^ d := Nat.pow_pos he
  refine ⟨?_, ?_⟩
  · rw [lt_pow hB, lt_pow (x := c) hd]
    constructor
    · intro z
      have h1 : a ^ B * e ^ d < b ^ B * e ^ d := Nat.mul_lt_mul_of_pos_right z pe
      rw [key, Nat.mul_comm (b ^ B)] at h1
      exact Nat.lt_of_mul_lt_mul_right h1
    · intro z
      have h1 : c ^ d * b ^ B < e ^ d * b ^ B := Nat.mul_lt_mul_of_pos_right z pb
      rw [← key, Nat.mul_comm (e ^ d)] at h1
      exact Nat.lt_of_mul_lt_mul_right h1
  · rw [lt_pow hB, lt_pow (x := e) hd]
    constructor
    · intro z
      have h1 : b ^ B * e ^ d < a ^ B * e ^ d := Nat.mul_lt_mul_of_pos_right z pe
      rw [key, Nat.mul_comm (b ^ B)] at h1
      exact Nat.lt_of_mul_lt_mul_right h1
    · intro z
      have h1 : e ^ d * b ^ B < c ^ d * b ^ B := Nat.mul_lt_mul_of_pos_right z pb
      rw [← key, Nat.mul_comm (e ^ d)] at h1
      exact Nat.lt_of_mul_lt_mul_right h1
/-! the means -/
theorem bern : ∀ (k : Nat) (z t : Int), 0 ≤ z → 0 ≤ z + t → z ^ (k + 1) + (k + 1 : Nat) * (z ^ k * t) ≤ (z + t) ^ (k + 1)
  | 0, z, t, _, _ => by simp [Int.pow_succ]
  | k + 1, z, t, h0, h1 => by
    have ih := bern k z t h0 h1
    have h2 := Int.mul_le_mul_of_nonneg_right ih h1
    have e1 : (z + t) ^ (k + 1 + 1) = (z + t) ^ (k + 1) * (z + t) := Int.pow_succ ..
    have pz : 0 ≤ z ^ k := Int.pow_nonneg h0
    have t2 : 0 ≤ z ^ k * (t * t) := Int.mul_nonneg pz (by
      rcases Int.le_total 0 t with h | h
      · exact Int.mul_nonneg h h
      · exact Int.mul_nonneg_of_nonpos_of_nonpos h h)
    have t3 : 0 ≤ ((k + 1 : Nat) : Int) * (z ^ k * (t * t)) := Int.mul_nonneg (by omega) t2
    have e2 : (z ^ (k + 1) + ((k + 1 : Nat) : Int) * (z ^ k * t)) * (z + t) = z ^ (k + 1 + 1) + ((k + 1 + 1 : Nat) : Int) * (z ^ (k + 1) * t) + ((k + 1 : Nat) : Int) * (z ^ k * (t * t)) := by
      rw [Int.pow_succ z (k + 1), Int.pow_succ z k, Int.natCast_add (k + 1) 1]
      generalize z ^ k = w
      generalize ((k + 1 : Nat) : Int) = c
      have : ((1 : Nat) : Int) = 1 := rfl
      rw [this]
      simp only [Int.add_mul, Int.mul_add, Int.one_mul, Int.mul_one, Int.mul_assoc, Int.mul_comm, Int.mul_left_comm, Int.add_assoc, Int.add_left_comm, Int.add_comm]
    rw [e1]
    omega
theorem bern_eq {k : Nat} {z t : Int} (h0 : 0 < z) (h1 : 0 ≤ z + t) (hk : 1 ≤ k) (h : z ^ (k + 1) + (k + 1 : Nat) * (z ^ k * t) = (z + t) ^ (k + 1)) : t = 0 := by
  obtain ⟨j, rfl⟩ : ∃ j, k = j + 1 := ⟨k - 1, by omega⟩
  have ih := bern j z t (by omega) h1
  have h2 := Int.mul_le_mul_of_nonneg_right ih h1
  have e1 : (z + t) ^ (j + 1 + 1) = (z + t) ^ (j + 1) * (z + t) := Int.pow_succ ..
  have e2 : (z ^ (j + 1) + ((j + 1 : Nat) : Int) * (z ^ j * t)) * (z + t) = z ^ (j + 1 + 1) + ((j + 1 + 1 : Nat) : Int) * (z ^ (j + 1) * t) + ((j + 1 : Nat) : Int) * (z ^ j * (t * t)) := by
    rw [Int.pow_succ z (j + 1), Int.pow_succ z j, Int.natCast_add (j + 1) 1]
    generalize z ^ j = w
    generalize ((j + 1 : Nat) : Int) = c
    have : ((1 : Nat) : Int) = 1 := rfl
    rw [this]
    simp only [Int.add_mul, Int.mul_add, Int.one_mul, Int.mul_one, Int.mul_assoc, Int.mul_comm, Int.mul_left_comm, Int.add_assoc, Int.add_left_comm, Int.add_comm]
  rw [e1] at h
  apply Classical.byContradiction
  intro nt
  have tt : 0 < t * t := by
    rcases Int.lt_or_gt_of_ne nt with y | y
    · exact Int.mul_pos_of_neg_of_neg y y
    · exact Int.mul_pos y y
  have t3 : 0 < ((j + 1 : Nat) : Int) * (z ^ j * (t * t)) := Int.mul_pos (by omega) (Int.mul_pos (Int.pow_pos h0) tt)
  omega
def prodI : List Int → Int
  | [] => 1
  | x :: r => x * prodI r
theorem prodI_pos : ∀ {xs : List Int}, (∀ x ∈ xs, 0 < x) → 0 < prodI xs
  | [], _ => by show (0 : Int) < 1; omega
  | x :: r, h => Int.mul_pos (h x List.mem_cons_self) (prodI_pos fun y hy => h y (List.mem_cons_of_mem _ hy))
theorem prodI_append : ∀ (a b : List Int), prodI (a ++ b) = prodI a * prodI b
  | [], b => by show prodI b = 1 * prodI b; rw [Int.one_mul]
  | x :: r, b => by show x * prodI (r ++ b) = x * prodI r * prodI b; rw [prodI_append, Int.mul_assoc]
theorem sumI_pos : ∀ {xs : List Int}, xs ≠ [] → (∀ x ∈ xs, 0 < x) → 0 < xs.sum
  | [], h, _ => absurd rfl h
  | [x], _, h => by have := h x List.mem_cons_self; simp; exact this
  | x :: y :: r, _, h => by
    have h1 := h x List.mem_cons_self
    have h2 := sumI_pos (xs := y :: r) (by simp) fun z hz => h z (List.mem_cons_of_mem _ hz)
    rw [List.sum_cons]; omega
/-- the two means of positive ints -/
theorem means : ∀ (xs : List Int), (∀ x ∈ xs, 0 < x) → ((xs.length : Nat) : Int) ^ xs.length * prodI xs ≤ xs.sum ^ xs.length ∧
    (((xs.length : Nat) : Int) ^ xs.length * prodI xs = xs.sum ^ xs.length → ∀ x ∈ xs, ∀ y ∈ xs, x = y)
  | [], _ => ⟨by simp [prodI], fun _ x hx => by cases hx⟩
  | [x], _ => ⟨by simp [prodI, Int.pow_succ], fun _ a ha b hb => by rw [List.mem_singleton.mp ha, List.mem_singleton.mp hb]⟩
  | x :: y :: r, h => by
    have hr : ∀ z ∈ y :: r, 0 < z := fun z hz => h z (List.mem_cons_of_mem _ hz)
    obtain ⟨ih1, ih2⟩ := means (y :: r) hr
    have S0 := sumI_pos (xs := y :: r) (by simp) hr
    have x0 := h x List.mem_cons_self
    have P0 := prodI_pos hr
    have e1 : (x :: y :: r).sum = x + (y :: r).sum := List.sum_cons
    have e2 : prodI (x :: y :: r) = x * prodI (y :: r) := rfl
    have e3 : (x :: y :: r).length = (y :: r).length + 1 := rfl
    have m1 : 1 ≤ (y :: r).length := by rw [List.length_cons]; omega
    have mem : ∀ z ∈ y :: r, z = y ∨ True := fun _ _ => .inr trivial
    have hy0 : y ∈ y :: r := List.mem_cons_self
    rw [e1, e2, e3]
    have all : ∀ c : Int, (∀ z ∈ y :: r, z = c) → (y :: r).sum = ((y :: r).length : Int) * c := by
      intro c
      generalize y :: r = l
      intro hl
      clear ih1 ih2 S0 P0 e1 e2 e3 m1 mem hy0 hr h
      induction l with
      | nil => simp
      | cons a t ih =>
        rw [List.sum_cons, ih fun z hz => hl z (List.mem_cons_of_mem _ hz), hl a List.mem_cons_self, List.length_cons, Int.natCast_add, Int.add_mul]; simp; omega
    generalize (y :: r).sum = S at *
    generalize prodI (y :: r) = P at *
    generalize (y :: r).length = m at *
    -- step
    have b := bern m (((m + 1 : Nat) : Int) * S) (m * x - S) (by have := Int.mul_pos (a := ((m + 1 : Nat) : Int)) (b := S) (by omega) S0; omega) (by
      have e : ((m + 1 : Nat) : Int) * S + (m * x - S) = m * S + m * x := by rw [Int.natCast_add, Int.add_mul]; simp; omega
      rw [e]
      have := Int.mul_pos (a := (m : Int)) (b := S) (by omega) S0
      have := Int.mul_pos (a := (m : Int)) (b := x) (by omega) x0
      omega)
    have e4 : ((m + 1 : Nat) : Int) * S + (m * x - S) = m * (x + S) := by rw [Int.natCast_add, Int.add_mul, Int.mul_add]; simp; omega
    have e5 : (((m + 1 : Nat) : Int) * S) ^ (m + 1) + ((m + 1 : Nat) : Int) * ((((m + 1 : Nat) : Int) * S) ^ m * (m * x - S)) = m * (((m + 1 : Nat) : Int) ^ (m + 1) * S ^ m * x) := by
      rw [Int.pow_succ (((m + 1 : Nat) : Int) * S) m, Int.mul_left_comm ((m + 1 : Nat) : Int), ← Int.mul_add]
      rw [show ((m + 1 : Nat) : Int) * S + ((m + 1 : Nat) : Int) * (m * x - S) = ((m + 1 : Nat) : Int) * (m * x) by rw [← Int.mul_add]; congr 1; omega]
      rw [Int.mul_pow, Int.pow_succ ((m + 1 : Nat) : Int) m]
      simp only [Int.mul_assoc, Int.mul_comm, Int.mul_left_comm]
    rw [e4, e5] at b
    have e6 : ((m : Int) * (x + S)) ^ (m + 1) = m * (m ^ m * (x + S) ^ (m + 1)) := by
      rw [Int.mul_pow, Int.pow_succ (m : Int)]
      simp only [Int.mul_assoc, Int.mul_comm, Int.mul_left_comm]
    rw [e6] at b
    have m0 : (0 : Int) < m := by omega
    have b2 : ((m + 1 : Nat) : Int) ^ (m + 1) * S ^ m * x ≤ m ^ m * (x + S) ^ (m + 1) := Int.le_of_mul_le_mul_left b m0
    have w0 : (0 : Int) < ((m + 1 : Nat) : Int) ^ (m + 1) := Int.pow_pos (by omega)
    have mm0 : (0 : Int) < (m : Int) ^ m := Int.pow_pos m0
    have c1 : ((m + 1 : Nat) : Int) ^ (m + 1) * ((m : Int) ^ m * P) * x ≤ ((m + 1 : Nat) : Int) ^ (m + 1) * S ^ m * x := Int.mul_le_mul_of_nonneg_right (Int.mul_le_mul_of_nonneg_left ih1 (by omega)) (by omega)
    have e7 : ((m + 1 : Nat) : Int) ^ (m + 1) * ((m : Int) ^ m * P) * x = (m : Int) ^ m * (((m + 1 : Nat) : Int) ^ (m + 1) * (x * P)) := by
      simp only [Int.mul_assoc, Int.mul_comm, Int.mul_left_comm]
    refine ⟨?_, fun eq => ?_⟩
    · refine Int.le_of_mul_le_mul_left (a := (m : Int) ^ m) ?_ mm0
      rw [← e7]; exact Int.le_trans c1 b2
    · have f1 : (m : Int) ^ m * (((m + 1 : Nat) : Int) ^ (m + 1) * (x * P)) = m ^ m * (x + S) ^ (m + 1) := by rw [eq]
      rw [← e7] at f1
      have f2 : ((m + 1 : Nat) : Int) ^ (m + 1) * ((m : Int) ^ m * P) * x = ((m + 1 : Nat) : Int) ^ (m + 1) * S ^ m * x := by omega
      have f3 : ((m + 1 : Nat) : Int) ^ (m + 1) * S ^ m * x = m ^ m * (x + S) ^ (m + 1) := by omega
      have f4 : (m : Int) ^ m * P = S ^ m := Int.eq_of_mul_eq_mul_left (by omega) (Int.eq_of_mul_eq_mul_right (by omega) f2)
      have allq := ih2 f4
      have sy := all y fun z hz => allq z hz y hy0
      have t0 : m * x - S = 0 := by
        refine bern_eq (k := m) (z := ((m + 1 : Nat) : Int) * S) (Int.mul_pos (by omega) S0) ?_ m1 ?_
        · rw [e4]; exact Int.mul_nonneg (by omega) (by omega)
        · rw [e4, e5, e6, f3]
      have xy : x = y := by
        rw [sy] at t0
        exact Int.eq_of_mul_eq_mul_left (a := (m : Int)) (by omega) (by omega)
      intro a ha b hb
      have va : a = y := by
        rcases List.mem_cons.mp ha with e | e
        · rw [e, xy]
        · exact allq a e y hy0
      have vb : b = y := by
        rcases List.mem_cons.mp hb with e | e
        · rw [e, xy]
        · exact allq b e y hy0
      rw [va, vb]
end Am

namespace Am
/-! counts -/
theorem ipp {x : Int} (n : Nat) (h : 0 < x) : 0 < x ^ n := Int.pow_pos h
theorem ipl {x y : Int} (h0 : 0 ≤ x) (h : x ≤ y) : ∀ n : Nat, x ^ n ≤ y ^ n
  | 0 => by rw [Int.pow_zero, Int.pow_zero]; exact Int.le_refl _
  | n + 1 => by
    rw [Int.pow_succ, Int.pow_succ]
    exact Int.mul_le_mul (ipl h0 h n) h h0 (Int.pow_nonneg (by omega))
/-- the product of n ^ n -/
def ee (ns : List Int) : Int := prodI (ns.map fun n => n ^ n.toNat)
theorem ee_pos {ns : List Int} (h : ∀ n ∈ ns, 0 < n) : 0 < ee ns := by
  refine prodI_pos fun x hx => ?_
  obtain ⟨n, hn, rfl⟩ := List.mem_map.mp hx
  exact Int.pow_pos (h n hn)
theorem ee_append (a b : List Int) : ee (a ++ b) = ee a * ee b := by
  unfold ee; rw [List.map_append, prodI_append]
theorem ee_cons (n : Int) (r : List Int) : ee (n :: r) = n ^ n.toNat * ee r := rfl
theorem sum0 {ns : List Int} (h : ∀ n ∈ ns, 0 < n) : 0 ≤ ns.sum := by
  cases ns with
  | nil => simp
  | cons x r => exact Int.le_of_lt (sumI_pos (by simp) h)
theorem sum_toNat {x : Int} {r : List Int} (h : ∀ n ∈ x :: r, 0 < n) : (x :: r).sum.toNat = x.toNat + r.sum.toNat := by
  have h1 := h x List.mem_cons_self
  have h2 := sum0 (ns := r) fun y hy => h y (List.mem_cons_of_mem _ hy)
  rw [List.sum_cons]; omega
theorem prodI_rep (n : Nat) (x : Int) : prodI (List.replicate n x) = x ^ n := by
  induction n with
  | zero => show (1 : Int) = x ^ 0; rw [Int.pow_zero]
  | succ k ih => rw [List.replicate_succ]; show x * _ = _; rw [ih, Int.pow_succ, Int.mul_comm]
theorem sumI_rep (n : Nat) (x : Int) : (List.replicate n x).sum = n * x := by
  induction n with
  | zero => simp
  | succ k ih => rw [List.replicate_succ, List.sum_cons, ih, Int.natCast_add, Int.add_mul]; simp; omega
theorem dvd_prodI {n : Int} : ∀ {ns : List Int}, n ∈ ns → n ∣ prodI ns
  | x :: r, h => by
    rcases List.mem_cons.mp h with e | h
    · rw [e]; exact ⟨prodI r, rfl⟩
    · obtain ⟨c, e⟩ := dvd_prodI h
      exact ⟨x * c, by show x * prodI r = _; rw [e]; exact Int.mul_left_comm ..⟩
/-- n copies of D / n for each n -/
def cop (D : Int) (ns : List Int) : List Int := ns.flatMap fun n => List.replicate n.toNat (D / n)
theorem cop_cons (D n : Int) (r : List Int) : cop D (n :: r) = List.replicate n.toNat (D / n) ++ cop D r := rfl
theorem cop_facts {D : Int} (hD : 0 < D) : ∀ {l : List Int}, (∀ n ∈ l, 0 < n ∧ n ∣ D) →
    (cop D l).length = l.sum.toNat ∧ (cop D l).sum = l.length * D ∧ prodI (cop D l) * ee l = D ^ l.sum.toNat ∧ ∀ x ∈ cop D l, 0 < x
  | [], _ => ⟨rfl, by show (0 : Int) = ((0 : Nat) : Int) * D; simp, by show (1 : Int) * 1 = D ^ 0; simp, by intro x hx; cases hx⟩
  | n :: r, h => by
    obtain ⟨n0, nd⟩ := h n List.mem_cons_self
    obtain ⟨h1, h2, h3, h4⟩ := cop_facts hD (l := r) fun y hy => h y (List.mem_cons_of_mem _ hy)
    have hs := sum_toNat (x := n) (r := r) fun y hy => (h y hy).1
    obtain ⟨c, hc⟩ := nd
    have ec : D / n = c := by rw [hc]; exact Int.mul_ediv_cancel_left _ (by omega)
    have en : ((n.toNat : Nat) : Int) = n := by omega
    rw [cop_cons, ec, hs]
    refine ⟨?_, ?_, ?_, ?_⟩
    · rw [List.length_append, List.length_replicate, h1]
    · rw [List.sum_append, sumI_rep, en, h2, ← hc, List.length_cons, Int.natCast_add, Int.add_mul]; simp; omega
    · rw [prodI_append, prodI_rep, ee_cons, Int.pow_add, ← h3]
      have : c ^ n.toNat * n ^ n.toNat = D ^ n.toNat := by rw [← Int.mul_pow, Int.mul_comm c, ← hc]
      rw [← this]
      simp only [Int.mul_assoc, Int.mul_comm, Int.mul_left_comm]
    · intro x hx
      rcases List.mem_append.mp hx with hx | hx
      · rw [(List.mem_replicate.mp hx).2]
        apply Int.pos_of_mul_pos_right (a := n) <;> omega
      · exact h4 x hx
/-- a spread is at most the logarithm of how many counts there are -/
theorem ent_le {ns : List Int} (h : ∀ n ∈ ns, 0 < n) : ns.sum ^ ns.sum.toNat ≤ (ns.length : Int) ^ ns.sum.toNat * ee ns ∧
    (ns.sum ^ ns.sum.toNat = (ns.length : Int) ^ ns.sum.toNat * ee ns → ∀ x ∈ ns, ∀ y ∈ ns, x = y) := by
  have D0 := prodI_pos h
  obtain ⟨h1, h2, h3, h4⟩ := cop_facts D0 (l := ns) fun n hn => ⟨h n hn, dvd_prodI hn⟩
  obtain ⟨m1, m2⟩ := means (cop (prodI ns) ns) h4
  have s0 := sum0 h
  have E0 := ee_pos h
  have P0 := prodI_pos h4
  have DN := ipp (ns.sum.toNat) D0
  have eN : ((ns.sum.toNat : Nat) : Int) = ns.sum := by omega
  rw [h1, h2, eN, Int.mul_pow] at m1 m2
  generalize hD : prodI ns = D at *
  have l1 : ns.sum ^ ns.sum.toNat * prodI (cop D ns) * ee ns = ns.sum ^ ns.sum.toNat * D ^ ns.sum.toNat := by rw [Int.mul_assoc, h3]
  have l2 : (ns.length : Int) ^ ns.sum.toNat * D ^ ns.sum.toNat * ee ns = (ns.length : Int) ^ ns.sum.toNat * ee ns * D ^ ns.sum.toNat := Int.mul_right_comm ..
  refine ⟨?_, fun eq => ?_⟩
  · refine Int.le_of_mul_le_mul_right (a := D ^ ns.sum.toNat) ?_ DN
    rw [← l1, ← l2]
    exact Int.mul_le_mul_of_nonneg_right m1 (by omega)
  · have e2 : ns.sum ^ ns.sum.toNat * prodI (cop D ns) = (ns.length : Int) ^ ns.sum.toNat * D ^ ns.sum.toNat := by
      refine Int.eq_of_mul_eq_mul_right (a := ee ns) (by omega) ?_
      rw [l1, l2, eq]
    have all := m2 e2
    intro x hx y hy
    have mem : ∀ z ∈ ns, D / z ∈ cop D ns := fun z hz => by
      have := h z hz
      exact List.mem_flatMap.mpr ⟨z, hz, List.mem_replicate.mpr ⟨by omega, rfl⟩⟩
    have q := all _ (mem x hx) _ (mem y hy)
    have dx : x * (D / x) = D := Int.mul_ediv_cancel' (by rw [← hD]; exact dvd_prodI hx)
    have dy : y * (D / y) = D := Int.mul_ediv_cancel' (by rw [← hD]; exact dvd_prodI hy)
    have p0 := h4 _ (mem y hy)
    rw [q] at dx
    exact Int.eq_of_mul_eq_mul_right (a := D / y) (by omega) (by omega)
theorem ent_eq {ns : List Int} (h : ∀ n ∈ ns, 0 < n) (c : Int) (hc : ∀ n ∈ ns, n = c) (hne : ns ≠ []) : ns.sum ^ ns.sum.toNat = (ns.length : Int) ^ ns.sum.toNat * ee ns := by
  have c0 : 0 < c := by
    cases ns with
    | nil => exact absurd rfl hne
    | cons x r => rw [← hc x List.mem_cons_self]; exact h x List.mem_cons_self
  have es : ns.sum = ns.length * c ∧ ee ns = c ^ (ns.length * c.toNat) := by
    clear hne
    induction ns with
    | nil => exact ⟨by simp, by show (1 : Int) = c ^ (0 * c.toNat); simp⟩
    | cons x r ih =>
      obtain ⟨i1, i2⟩ := ih (fun y hy => h y (List.mem_cons_of_mem _ hy)) (fun y hy => hc y (List.mem_cons_of_mem _ hy))
      have hx := hc x List.mem_cons_self
      refine ⟨?_, ?_⟩
      · rw [List.sum_cons, i1, hx, List.length_cons, Int.natCast_add, Int.add_mul]; simp; omega
      · rw [ee_cons, i2, hx, ← Int.pow_add, List.length_cons, Nat.add_mul, Nat.one_mul, Nat.add_comm]
  have et : ns.sum.toNat = ns.length * c.toNat := by
    rw [es.1]
    have : c = (c.toNat : Int) := by omega
    rw [this, ← Int.natCast_mul, Int.toNat_natCast, Int.toNat_natCast]
  rw [es.2, et, ← Int.mul_pow, ← es.1]
/-- products of n ^ n lie below -/
theorem ee_le {c : Int} (hc : 0 < c) : ∀ {l : List Int}, (∀ n ∈ l, 0 < n ∧ n ≤ c) → ee l ≤ c ^ l.sum.toNat
  | [], _ => by show (1 : Int) ≤ c ^ 0; simp
  | x :: r, h => by
    obtain ⟨x0, xc⟩ := h x List.mem_cons_self
    have ih := ee_le hc (l := r) fun y hy => h y (List.mem_cons_of_mem _ hy)
    rw [ee_cons, sum_toNat fun y hy => (h y hy).1, Int.pow_add]
    have p1 : x ^ x.toNat ≤ c ^ x.toNat := ipl (by omega) xc _
    have p2 := ee_pos (ns := r) fun y hy => (h y (List.mem_cons_of_mem _ hy)).1
    have p3 := ipp (x.toNat) hc
    exact Int.mul_le_mul p1 ih (by omega) (by omega)
theorem ee_self {l : List Int} (h : ∀ n ∈ l, 0 < n) (hne : l ≠ []) : ee l ≤ l.sum ^ l.sum.toNat := by
  refine ee_le (sumI_pos hne h) fun n hn => ⟨h n hn, ?_⟩
  have : ∀ l' : List Int, (∀ n ∈ l', 0 < n) → n ∈ l' → n ≤ l'.sum := by
    intro l' h' hn'
    induction l' with
    | nil => cases hn'
    | cons y r ih =>
      have hr : ∀ n ∈ r, 0 < n := fun z hz => h' z (List.mem_cons_of_mem _ hz)
      have := sum0 hr
      have := h' y List.mem_cons_self
      rw [List.sum_cons]
      rcases List.mem_cons.mp hn' with e | e
      · omega
      · have := ih hr e; omega
  exact this l h hn
theorem ee_strict {x y : Int} {r : List Int} (h : ∀ n ∈ x :: y :: r, 0 < n) : ee (x :: y :: r) < (x :: y :: r).sum ^ (x :: y :: r).sum.toNat := by
  have x0 := h x List.mem_cons_self
  have hr : ∀ n ∈ y :: r, 0 < n := fun z hz => h z (List.mem_cons_of_mem _ hz)
  have s0 := sumI_pos (xs := y :: r) (by simp) hr
  have S0 : 0 < (x :: y :: r).sum := sumI_pos (by simp) h
  have e1 : (x :: y :: r).sum = x + (y :: r).sum := List.sum_cons
  have l1 := ee_self hr (by simp)
  rw [ee_cons, sum_toNat h, Int.pow_add]
  have p1 : x ^ x.toNat < (x :: y :: r).sum ^ x.toNat := by
    have g : ∀ j : Nat, x ^ (j + 1) < (x :: y :: r).sum ^ (j + 1) := by
      intro j
      induction j with
      | zero => simp only [Nat.zero_add, Int.pow_succ, Int.pow_zero, Int.one_mul]; omega
      | succ i ih =>
        rw [Int.pow_succ, Int.pow_succ _ (i + 1)]
        have q1 := ipp (i + 1) x0
        have q2 := ipp (i + 1) S0
        exact Int.lt_of_lt_of_le (Int.mul_lt_mul_of_pos_right ih x0) (Int.mul_le_mul_of_nonneg_left (by omega) (by omega))
    have := g (x.toNat - 1)
    rwa [show x.toNat - 1 + 1 = x.toNat by omega] at this
  have p2 : ee (y :: r) ≤ (x :: y :: r).sum ^ (y :: r).sum.toNat := Int.le_trans l1 (ipl (by omega) (by omega) _)
  have p3 := ee_pos hr
  have p4 := ipp ((y :: r).sum.toNat) S0
  have p5 := ipp (x.toNat) x0
  exact Int.lt_of_lt_of_le (Int.mul_lt_mul_of_pos_right p1 p3) (Int.mul_le_mul_of_nonneg_left p2 (by have := ipp (x.toNat) S0; omega))
/-- what is put together -/
theorem ee_parts : ∀ {ps : List (List Int)}, (∀ p ∈ ps, p ≠ [] ∧ ∀ n ∈ p, 0 < n) → ee ps.flatten ≤ ee (ps.map fun p => p.sum)
  | [], _ => Int.le_refl _
  | p :: r, h => by
    obtain ⟨hn, hp⟩ := h p List.mem_cons_self
    have ih := ee_parts (ps := r) fun y hy => h y (List.mem_cons_of_mem _ hy)
    rw [List.flatten_cons, ee_append, List.map_cons, ee_cons]
    have p1 := ee_self hp hn
    have p2 : 0 < ee r.flatten := ee_pos fun n hn' => by
      obtain ⟨l, hl, hnl⟩ := List.mem_flatten.mp hn'
      exact (h l (List.mem_cons_of_mem _ hl)).2 n hnl
    have p3 := sumI_pos hn hp
    have p4 := ipp (p.sum.toNat) p3
    exact Int.mul_le_mul p1 ih (by omega) (by omega)
theorem ee_perm {a b : List Int} (h : a.Perm b) : ee a = ee b := by
  induction h with
  | nil => rfl
  | cons x _ ih => rw [ee_cons, ee_cons, ih]
  | swap x y l => rw [ee_cons, ee_cons, ee_cons, ee_cons]; exact Int.mul_left_comm ..
  | trans _ _ i1 i2 => rw [i1, i2]
end Am

namespace Am
/-! how much the exponents of a number cost -/
theorem sum_vp (n : Nat) : ∀ (ps : List Nat), ps.Nodup → (∀ p ∈ ps, Pr p) → ∀ n, 0 < n → 2 ^ (ps.map fun p => vp p n).sum ≤ n
  | [], _, _, n, h => by show 1 ≤ n; omega
  | p :: r, nd, pr, n, hn => by
    have hp := pr p List.mem_cons_self
    have nd2 := List.nodup_cons.mp nd
    obtain ⟨m, hm⟩ := vp_dvd hp.two n hn
    have pp : 0 < p ^ vp p n := Nat.pow_pos hp.pos
    have m0 : 0 < m := by
      apply Nat.pos_of_ne_zero
      rintro rfl
      rw [Nat.mul_zero] at hm; omega
    have ih := sum_vp m r nd2.2 (fun q hq => pr q (List.mem_cons_of_mem _ hq)) m m0
    have e : (r.map fun q => vp q n) = r.map fun q => vp q m := by
      apply List.map_congr_left
      intro q hq
      have hq' := pr q (List.mem_cons_of_mem _ hq)
      have ne : q ≠ p := fun z => nd2.1 (z ▸ hq)
      have h1 : vp q (p ^ vp p n * m) = vp q (p ^ vp p n) + vp q m := vp_mul hq' _ _ pp m0
      rw [← hm, vp_pow hq' hp.pos, vp_other hq' hp ne, Nat.mul_zero, Nat.zero_add] at h1
      exact h1
    rw [List.map_cons, List.sum_cons, e, Nat.pow_add]
    have h2 : 2 ^ vp p n ≤ p ^ vp p n := Nat.pow_le_pow_left hp.two _
    calc 2 ^ vp p n * 2 ^ (r.map fun q => vp q m).sum ≤ p ^ vp p n * m := Nat.mul_le_mul h2 ih
      _ = n := hm.symm
theorem sum_vp_log {n : Nat} (hn : 0 < n) {ps : List Nat} (nd : ps.Nodup) (pr : ∀ p ∈ ps, Pr p) : (ps.map fun p => vp p n).sum ≤ n.log2 := by
  have h := sum_vp n ps nd pr n hn
  exact (Nat.le_log2 (by omega)).mpr h
/-- what a sum of logarithms costs at most -/
def wgt (M : List (Int × Int)) : Nat := (M.map fun q => q.1.natAbs * q.2.toNat.log2).sum
theorem sum_lg {ps : List Nat} (nd : ps.Nodup) (pr : ∀ p ∈ ps, Pr p) : ∀ {M : List (Int × Int)}, (∀ q ∈ M, 0 < q.2) → (ps.map fun p : Nat => (lg M (p : Int)).natAbs).sum ≤ wgt M
  | [], _ => by
    have : ∀ l : List Nat, (l.map fun p : Nat => (lg [] (p : Int)).natAbs).sum = 0 := by
      intro l
      induction l with
      | nil => rfl
      | cons x r ih => rw [List.map_cons, List.sum_cons, ih, lg_nil]; rfl
    rw [this]; exact Nat.zero_le _
  | q :: r, h => by
    have ih := sum_lg nd pr (M := r) fun z hz => h z (List.mem_cons_of_mem _ hz)
    have q0 := h q List.mem_cons_self
    have hl := sum_vp_log (n := q.2.toNat) (by omega) nd pr
    have key : ∀ l : List Nat, (∀ p ∈ l, Pr p) → (l.map fun p : Nat => (lg (q :: r) (p : Int)).natAbs).sum ≤ q.1.natAbs * (l.map fun p => vp p q.2.toNat).sum + (l.map fun p : Nat => (lg r (p : Int)).natAbs).sum := by
      intro l hp
      induction l with
      | nil => exact Nat.zero_le _
      | cons p t ih2 =>
        have i2 := ih2 fun z hz => hp z (List.mem_cons_of_mem _ hz)
        have hpp := hp p List.mem_cons_self
        have e : lg (q :: r) (p : Int) = q.1 * vi p q.2 + lg r p := by
          rw [lg_pr _ hpp, lg_pr _ hpp, List.map_cons, List.sum_cons]
        have a1 : (lg (q :: r) (p : Int)).natAbs ≤ q.1.natAbs * vp p q.2.toNat + (lg r (p : Int)).natAbs := by
          rw [e]
          have := Int.natAbs_add_le (q.1 * vi p q.2) (lg r p)
          have e2 : (q.1 * vi p q.2).natAbs = q.1.natAbs * vp p q.2.toNat := by
            unfold vi; rw [Int.natAbs_mul, Int.natAbs_natCast, Int.toNat_natCast]
          omega
        rw [List.map_cons, List.sum_cons, List.map_cons, List.sum_cons, List.map_cons, List.sum_cons, Nat.mul_add]
        omega
    have k := key ps pr
    have : q.1.natAbs * (ps.map fun p => vp p q.2.toNat).sum ≤ q.1.natAbs * q.2.toNat.log2 := Nat.mul_le_mul_left _ hl
    have e : wgt (q :: r) = q.1.natAbs * q.2.toNat.log2 + wgt r := by unfold wgt; rw [List.map_cons, List.sum_cons]
    omega
theorem lg_key {M : List (Int × Int)} {p : Int} {m : Int} (h : lg M p ≠ 0) (hM : ∀ q ∈ M, 0 < q.2 ∧ q.2 ≤ m) : 2 ≤ p ∧ p ≤ m := by
  by_cases hp : ∃ n : Nat, p = n ∧ Pr n
  · obtain ⟨n, rfl, pr⟩ := hp
    refine ⟨by have := pr.two; omega, ?_⟩
    rw [lg_pr M pr] at h
    by_cases z : ∃ q ∈ M, vi n q.2 ≠ 0
    · obtain ⟨q, hq, hv⟩ := z
      obtain ⟨q0, qm⟩ := hM q hq
      unfold vi at hv
      have h1 : vp n q.2.toNat ≠ 0 := by
        intro y; apply hv; rw [Int.toNat_natCast, y]; rfl
      have := vp_pos_le (by omega) h1
      omega
    · exfalso; apply h
      have : ∀ M' : List (Int × Int), (∀ q ∈ M', q ∈ M) → (M'.map fun q => q.1 * vi n q.2).sum = 0 := by
        intro M'
        induction M' with
        | nil => intro _; rfl
        | cons x r ih =>
          intro hs
          have hx : vi n x.2 = 0 := by
            by_cases y : vi n x.2 = 0
            · exact y
            · exact absurd ⟨x, hs x List.mem_cons_self, y⟩ z
          rw [List.map_cons, List.sum_cons, hx, Int.mul_zero, ih fun y hy => hs y (List.mem_cons_of_mem _ hy)]; rfl
      exact this M fun _ h => h
  · exact absurd (lg_no M hp) h
end Am

/-! rules of our own over the hand layer -/
namespace Ly
open PySem PySem.Spec PyProof.Rows L2

section guarded
variable {P : Program} {w : World} {K : PySem.W.Frag} {mg : Str → Option Value} {base : Heap}
/-- what a def promises where no text of a container is being made around it -/
structure FnG (P : Program) (w : World) (K : PySem.W.Frag) (mg : Str → Option Value) (base : Heap)
    (CX : CXT) (k : Nat) (f : Addr) (fd : FuncData) (ps : List Str) (sp : Sp) : Prop where
  arity : ∀ vs H Q E, sp vs H Q E → vs.length = ps.length
  go : ∀ (A : Around) (out : List Env) (s : Shared) (H : Hp) (ar : Args) (us : List Value)
    (vs : List V) (Q : VK) (E : XK), A.guards = some [] → Room k A → Env0 P w K mg base A out s H →
    BindsTo s fd ar (ps.zip us) → Vals vs us → sp vs H Q E →
    codeAny (model P w) A (.call (.ref f) ar) (CR CX out P w H s Q E) s

theorem FnG.of {CX : CXT} {k : Nat} {f : Addr} {fd : FuncData} {ps : List Str} {sp : Sp}
    (F : FnOk P w K mg base CX k f fd ps sp) : FnG P w K mg base CX k f fd ps sp :=
  ⟨F.len, fun A o s H ar us vs Q E _ => F.run A o s H ar us vs Q E⟩

theorem fnG_of {CX : CXT} {k : Nat} {x qual : Str} {pr : Arguments} {body : List Stmt} {sc : Scope}
    {dvs : List V} {kws : List (Str × V)} {f : Addr} {fd : FuncData} {N ps : List Str} {sp : Sp}
    (F : FunD K x qual pr body sc dvs kws f fd) (S : FnScope N ps sc)
    (ar : ∀ vs H Q E, sp vs H Q E → vs.length = ps.length)
    (hb : ∀ (cdv : Value) (A : Around) (out : List Env) (s : Shared) (H : Hp) (vs : List V) (Q : VK) (E : XK),
      A.guards = some [] → Room k (A.deeper (envOfC qual sc s.heap.objs.size f cdv)) → sp vs H Q E →
      ∃ t, PSs (cxOf CX P w K mg base N qual sc f cdv A out s H E) body t ∧
        t { nx := fun _ H' => Q .non H', rt := Q } (start N vs) H) :
    FnG P w K mg base CX (k + 1) f fd ps sp := by
  obtain ⟨oc, od, dV, kV, doc, pm, an, cdv, ct, osl, rfl, lk, hcd, _, _⟩ := F.ex
  refine ⟨ar, ?_⟩
  intro A out s H args us vs Q E hgd hr e0 hbd rv hsp
  have KX : K.In s.heap := e0.mod.kin.keeps (fun b o e => (e0.bs b o e).1)
  have lim : s.heap.NoLimit := e0.mod.nolimit.keeps (fun b o e => (e0.bs b o e).1)
  have vis : ∀ y ∈ ps.zip us, sc.names.lookup y.1 = some .local ∨
      (sc.names.lookup y.1 = some .cell ∧
        ((cellsFrom (s.heap.objs.size + 1) sc.names []).lookup y.1).isSome = true) := by
    rintro ⟨n, v⟩ hy
    cases S.par n (List.of_mem_zip hy).1 with
    | inl q => exact Or.inl q
    | inr q => exact Or.inr ⟨q, PySem.W.cellsFrom_some _ _ _ (Or.inl q)⟩
  apply codeAny_call_function hr.depth (KX _ _ lk) rfl S.co S.gen rfl (PySem.W.codeRec_of KX hcd)
  apply hbd
  apply wpAny_newFunctionEnv_cells S.kind vis
  rintro env rfl s1 x
  refine ⟨lim.keeps x.toInCall.keep, codeAny_func ?_⟩
  obtain ⟨t, ht, hq⟩ := hb cdv A out s H vs Q E hgd (hr.deeper _) hsp
  have I := inv_start (CX := CX) (E := E) (qual := qual) (f := f) (cd := cdv) (N := N) S hr.hd e0 (ar _ _ _ _ hsp) rv x
  apply wpAny_mono (ht.run [] s1 (start N vs) H _ I hq)
  · intro fl s' hs
    cases fl with
    | ret u => obtain ⟨v, σ', H', J, rv', q⟩ := hs; exact ⟨v, H', J.os, J.bare, J.base, J.hok, rv', q⟩
    | next => obtain ⟨σ', H', J, q⟩ := hs; exact ⟨.non, H', J.os, J.bare, J.base, J.hok, rfl, q⟩
    | brk => obtain ⟨_, _, _, q⟩ := hs; exact q.elim
    | cont => obtain ⟨_, _, _, q⟩ := hs; exact q.elim
  · intro e s' hs; exact hs
end guarded

section calls
variable {X : Cx} {CX : CXT} {k : Nat} {f : Addr} {fd : FuncData} {ps ks : List Str} {sp : Sp}
  {dvs : List V} {ds : List Value} {E : XK} {x : Str} {p pos : Pos} {e : Expr} {es : List Expr} {t tk : TA} {kws : List Keyword}
/-- a guarded callee runs -/
theorem run_G {pins : List (Addr × Obj)} {σ : L2.St} {H : Hp} {s : Shared} {Q : VK} {us : List Value} {vs : List V}
    (F : FnG X.prog X.w X.K X.mg X.base CX k f fd ps sp) (hgd : X.A.guards = some []) (hr : Room k X.A)
    (hb : Binds X.K fd ps ds) (hd : Vals dvs ds) (hx : Passes CX X E)
    (I : Inv X pins σ H s) (r : Vals vs us) (h : sp (vs ++ dvs) H Q E) :
    wpAny (model X.prog X.w) X.A (call (.ref f) us) (EP X pins σ Q) X.xe s := by
  have r2 : Vals (vs ++ dvs) (us ++ ds) := r.append hd
  have hl : (us ++ ds).length = ps.length := r2.length ▸ F.arity _ _ _ _ h
  have run := F.go X.A X.stack s H ⟨us, []⟩ (us ++ ds) (vs ++ dvs) Q E hgd hr I.env0 (hb s us I.kIn hl) r2 h
  apply wpAny_call
  apply codeAny_mono run
  intro r s' hq
  match r, hq with
  | .error e, hq => exact hx pins σ H s e s' I hq
  | .ok (.ret u), hq => exact I.after hq
theorem pe_callG (F : FnG X.prog X.w X.K X.mg X.base CX k f fd ps sp) (hgd : X.A.guards = some []) (hr : Room k X.A)
    (hg : Gl X x) (hm : X.mg x = some (.ref f)) (hk : PySem.W.keepIn X.K (.ref f) = true)
    (hb : Binds X.K fd ps ds) (hd : Vals dvs ds) (hx : Passes CX X E) (ha : PA X (e :: es) t)
    (hdb : (x == ("__debug__" : Str)) = false := by decide)
    (he : starEach (e :: es) X.env = (false, eval e X.env) :: starEach es X.env := by rfl)
    (hpl : (backTo pos (starEach es X.env)).any (·.1) = false := by rfl) :
    PE X (.Call (.Name x p) (e :: es) [] pos) (tCall sp dvs E t) := by
  constructor
  intro pins s σ H Q I h
  apply wpAny_Call_Name_kw
  refine ld_glob I hg hm ?_ hdb
  refine PySem.W.callWith_K (h₀ := X.base) I.ok.mod.kin hk ?_ he hpl
  exact thn (ha.run pos pins s σ H _ I h) fun us s1 ⟨vs, H1, I1, r, q⟩ => ⟨I1.kIn, run_G F hgd hr hb hd hx I1 r q⟩
/-- f(k = v, ..), nothing by position: the values in the order of the call -/
theorem pe_callK0 {g : List Value → List Value → List Value} {gV : List V → List V → List V}
    (F : FnOk X.prog X.w X.K X.mg X.base CX k f fd ps sp) (hr : Room k X.A)
    (hg : Gl X x) (hm : X.mg x = some (.ref f)) (hk : PySem.W.keepIn X.K (.ref f) = true)
    (hb : KBinds X.K fd ps ks g gV) (hx : Passes CX X E) (hkw : PK X kws tk)
    (hall : (backToKw pos (keywordEach kws X.env)).all (·.1.isSome) = true := by rfl)
    (hks : (backToKw pos (keywordEach kws X.env)).filterMap (·.1) = ks := by rfl)
    (hdb : (x == ("__debug__" : Str)) = false := by decide)
    (hpl : ((backTo pos (starEach [] X.env)).any (·.1) || (backToKw pos (keywordEach kws X.env)).any (·.1.isNone)) = false := by rfl) :
    PE X (.Call (.Name x p) [] kws pos) (fun σ H Q => tk σ H fun zs H2 => sp (gV [] zs) H2 Q E) := by
  constructor
  intro pins s σ H Q I h
  apply wpAny_Call_Name_kw
  refine ld_glob I hg hm ?_ hdb
  refine PySem.W.callWith_KW0 (h₀ := X.base) I.ok.mod.kin hk hall ?_ hpl
  refine thn (hkw.run pos pins s σ H _ I h) fun ws s2 ⟨zs, H2, I2, rz, q2⟩ => ⟨I2.kIn, ?_⟩
  rw [hks]
  exact run_fnk (us := []) (vs := []) F hr hb hx I2 .nil rz q2
end calls

/-! ### repr of data -/
section
variable {X : Cx}
def rRepr (K : PySem.W.Frag) : List V → Hp → VK → Prop := fun vs H Q => ∃ a d, vs = [.ref a] ∧ Dp K H (.ref a) d ∧
  d.showable = true ∧ d.hasDict = false ∧ d.depth ≤ 60 ∧ d.shown.length ≤ sizeLine ∧ Q (.str d.shown) H
theorem cr_repr (hgd : X.A.guards = some []) (hu : X.A.units + 64 < cLine) : CallR X (.builtin "repr") (rRepr X.K) := by
  intro pins s σ H vs us Q I r h
  obtain ⟨a, d, rfl, hd, h1, h2, h3, h4, q⟩ := h
  cases r with
  | cons r1 r2 =>
    cases r2
    obtain rfl := (show _ = Value.ref a from r1)
    obtain ⟨as, rd⟩ := Dp.reads I d _ _ hd rfl
    refine repr_of_reads' (h₀ := s.heap) rd h1 (fun q => absurd q (by rw [h2]; decide)) hgd (by omega) (fun b o e => e) (fun h' u tk kp => ?_) h4
    exact ⟨.str d.shown, H, I.kept kp, ⟨_, rfl⟩, q⟩
end
end Ly
namespace Ly
open PySem PySem.Spec PyProof.Rows L2
section
variable {X : Cx}
/-! ### sum, min, max of a tuple of ints; isqrt, lcm -/
def rSumT (K : PySem.W.Frag) : List V → Hp → VK → Prop := fun vs H Q => ∃ (a : Addr) (ns : List Int), vs = [V.ref a] ∧ SqT K H a (ns.map V.int) ∧ Q (.int ns.sum) H
theorem sum_tup {prog : Program} {w : World} {A : Around} {E : Value → Shared → Prop} {s : Shared} {l : Addr} {its : List Value} {ns : List Int} {Q : Value → Shared → Prop}
    (hh : A.handled = none) (hl : s.heap.IsTuple l its.toArray) (hi : IntsAre its ns)
    (h : ∀ h' tk t', (∀ b o, s.heap.get? b = some o → h'.get? b = some o) → Q (.int ns.sum t') { s with heap := h', toks := tk }) :
    wpAny (model prog w) A (call (.builtin "sum") [.ref l]) Q E s := by
  obtain ⟨xs, e⟩ := hi.allInts.items
  have hn : numsOf (intItems xs).toList = ns := by rw [← e]; exact hi.numsOf
  rw [nums_intItems] at hn
  rw [e] at hl
  have hlt : l < s.heap.objs.size := by obtain ⟨_, e1, _⟩ := hl; exact Heap.lt_size e1
  refine call_sum_walkG (wpAny_pyIter_tuple hl ?_)
  refine ⟨_, _, _, _, _, _, numAt xs, rfl, Walks.tuple (A := A.in1) hh _ l (Nat.ne_of_lt hlt) (intItems xs),
    ⟨⟨_, Heap.get?_push_size _ rfl, rfl, rfl⟩, hl.push _⟩, ?_, (fun _ _ => intItems_at), ?_⟩
  · intro b hb
    show b < (s.heap.push _).objs.size
    rw [Heap.size_push]
    simp only [List.mem_cons, List.not_mem_nil, or_false] at hb
    rcases hb with rfl | rfl
    · exact Nat.lt_succ_self _
    · exact Nat.lt_succ_of_lt hlt
  · intro h' tk t' hk
    have z := h h' tk t' fun b o eb => hk b o (by
      simp only [List.mem_cons, List.not_mem_nil, or_false]
      exact Nat.ne_of_lt (Heap.lt_size eb)) (Heap.get?_push_of_some _ eb)
    have sz : (intItems xs).size = xs.size := by simp [intItems]
    rw [sz, preSum_eq, List.take_of_length_le (by simp), hn]
    exact z
theorem cr_sumT (hc : X.calm = true) : CallR X (.builtin "sum") (rSumT X.K) := by
  intro pins s σ H vs us Q I r h
  obtain ⟨a, ns, rfl, hs, q⟩ := h
  obtain ⟨its, rv, hl, _⟩ := I.tuple hs
  rw [Vals.ref1 r]
  exact sum_tup (I.ok.hd hc) hl rv.ints fun h' tk t' hk => ⟨.int _, H, I.kept hk, ⟨_, rfl⟩, q⟩

def rMinT (K : PySem.W.Frag) : List V → Hp → VK → Prop := fun vs H Q => ∃ (a : Addr) (n : Int) (ns : List Int), vs = [V.ref a] ∧ SqT K H a ((n :: ns).map V.int) ∧ Q (.int (ns.foldl min n)) H
def rMaxT (K : PySem.W.Frag) : List V → Hp → VK → Prop := fun vs H Q => ∃ (a : Addr) (n : Int) (ns : List Int), vs = [V.ref a] ∧ SqT K H a ((n :: ns).map V.int) ∧ Q (.int (ns.foldl max n)) H
theorem readsAll_ints : ∀ {h : Heap} {its : List Value} {ns : List Int}, IntsAre its ns → ∃ as, ReadsAll h its (ns.map PyData.int) as
  | _, _, _, .nil => ⟨_, .nil⟩
  | h, _, _, .cons n t r => by
    obtain ⟨as, q⟩ := readsAll_ints (h := h) r
    exact ⟨_, .cons (.int n t) q⟩
theorem alike_ints (ns : List Int) : PySem.W.AlikeAll (ns.map PyData.int) := by
  constructor
  · intro x hx y hy
    obtain ⟨i, _, rfl⟩ := List.mem_map.mp hx
    obtain ⟨j, _, rfl⟩ := List.mem_map.mp hy
    simp only [PySem.W.alike]
  · intro x hx
    obtain ⟨i, _, rfl⟩ := List.mem_map.mp hx
    intro e; cases e
theorem depth_ints : ∀ ns : List Int, PyData.depthAll (ns.map PyData.int) ≤ 1
  | [] => by simp [PyData.depthAll]
  | n :: r => by
    have := depth_ints r
    simp only [List.map_cons, PyData.depthAll, PyData.depth]
    omega
theorem cr_minT (hc : X.calm = true) (hu : X.A.units + 64 < cLine) : CallR X (.builtin "min") (rMinT X.K) := by
  intro pins s σ H vs us Q I r h
  obtain ⟨a, n, ns, rfl, hs, q⟩ := h
  obtain ⟨its, rv, hl, _⟩ := I.tuple hs
  rw [Vals.ref1 r]
  obtain ⟨as, rd⟩ := readsAll_ints (h := s.heap) rv.ints
  refine PySem.W.min_tuple_data (x := .int n) (xs := ns.map .int) (I.ok.hd hc) hl (by simpa using rd) (alike_ints (n :: ns)) (by have := depth_ints (n :: ns); simp only [List.map_cons] at this; omega) ?_
  intro i v h' tk bs hv rd' hk
  rw [PySem.W.minD_ints] at rd'
  cases rd' with
  | int _ t => exact ⟨.int _, H, I.kept hk, ⟨_, rfl⟩, q⟩
theorem cr_maxT (hc : X.calm = true) (hu : X.A.units + 64 < cLine) : CallR X (.builtin "max") (rMaxT X.K) := by
  intro pins s σ H vs us Q I r h
  obtain ⟨a, n, ns, rfl, hs, q⟩ := h
  obtain ⟨its, rv, hl, _⟩ := I.tuple hs
  rw [Vals.ref1 r]
  obtain ⟨as, rd⟩ := readsAll_ints (h := s.heap) rv.ints
  refine PySem.W.max_tuple_data (x := .int n) (xs := ns.map .int) (I.ok.hd hc) hl (by simpa using rd) (alike_ints (n :: ns)) (by have := depth_ints (n :: ns); simp only [List.map_cons] at this; omega) ?_
  intro i v h' tk bs hv rd' hk
  rw [PySem.W.maxD_ints] at rd'
  cases rd' with
  | int _ t => exact ⟨.int _, H, I.kept hk, ⟨_, rfl⟩, q⟩
theorem cr_isqrt : CallR X (.builtin "math.isqrt") (fun vs H Q => ∃ a : Int, vs = [.int a] ∧ 0 ≤ a ∧ a < 2 ^ 64 ∧ Q (.int ((PySem.Float64.isqrt a.toNat : Nat) : Int)) H) := by
  intro pins s σ H vs us Q I r h
  obtain ⟨a, rfl, h0, h1, q⟩ := h
  cases r with
  | cons r1 r2 =>
    cases r2
    obtain ⟨t, rfl⟩ := r1
    exact PySem.W.mg_isqrt h0 h1 ⟨.int _, H, I.tok _, ⟨_, rfl⟩, q⟩
theorem cr_lcm : CallR X (.builtin "math.lcm") (fun vs H Q => ∃ a b : Int, vs = [.int a, .int b] ∧ a.natAbs < 2 ^ 64 ∧ b.natAbs < 2 ^ 64 ∧ Q (.int ((a.natAbs.lcm b.natAbs : Nat) : Int)) H) := by
  intro pins s σ H vs us Q I r h
  obtain ⟨a, b, rfl, h0, h1, q⟩ := h
  obtain ⟨t, u, rfl⟩ := Vals.int2 r
  exact PySem.W.mc_lcm h0 h1 fun _ => ⟨.int _, H, I.tok _, ⟨_, rfl⟩, q⟩
end
end Ly

namespace Ly
open PySem PySem.Spec PyProof.Rows L2
/-! the end of a law whose own def is a guarded one -/
section
variable {P : Program} {w : World} {K : PySem.W.Frag} {mg mb : Str → Option Value} {k : Nat} {fa a : Addr} {fd : FuncData} {x : Str} {sp : Sp} {s₁ : Shared} {vs : List Value} {ns : List Int}
/-- what is wanted of the law's call -/
def LawR (s₁ : Shared) (r : Result) (s' : Shared) : Prop :=
  r = .ok (.ret (.bool true)) ∧ OldK s₁.heap s'.heap ∧ s'.os = s₁.os ∧ AllBare s'.gens
theorem lawG_from (H : Hp) (KX : K.In s₁.heap) (hns : s₁.heap.Ns mainGlobals mg) (hb : s₁.heap.Ns builtinsNs mb)
    (hbb : ∀ x : Str, x ≠ "__name__" → mb x = bootBuiltins x) (hlim : s₁.heap.NoLimit) (hg : s₁.gens = #[])
    (ha : s₁.heap.get? a = some { cls := .type "list", data := .seq vs.toArray }) (hr : Room k callerA)
    (F : ∀ base : Heap, K.In base → base.Ns mainGlobals mg → FnG P w K mg base CX0 k fa fd [x] sp)
    (hbind : ∀ (s : Shared) (u : Value), BindsTo s fd ⟨[u], []⟩ [(x, u)])
    (hO : Only H) (hok : HOk P w H s₁.heap) (hA : ∀ b, H b ≠ none → b = a) (hK : H a ≠ none → K.lookup a = none)
    (hsp : sp [.ref a] H (fun v _ => v = .bl true) fun _ _ _ => False) :
    codeAny (model P w) callerA (.call (.ref fa) ⟨[.ref a], []⟩) (LawR s₁) s₁ := by
  -- what stands at an address that is not tracked stands in the ground
  have only : ∀ b o, s₁.heap.get? b = some o → (∀ xs n, b = a → o.data ≠ Data.seq xs n) → H b = none := by
    intro b o e d
    cases q : H b with
    | none => rfl
    | some u =>
      exfalso
      have e' := hA b (by rw [q]; exact Option.some_ne_none u)
      have ha' := ha
      rw [← e', e] at ha'
      exact d _ _ e' (by rw [Option.some.inj ha'])
  have nsG : ∀ {b : Addr} {m : Str → Option Value}, s₁.heap.Ns b m → (hidT s₁.heap H).Ns b m := by
    rintro b m ⟨o, es, ep, e, d, r⟩
    refine ⟨o, es, ep, hidT_get e (only b o e fun xs n _ z => ?_), d, r⟩
    rw [d] at z
    cases z
  have kG : K.In (hidT s₁.heap H) := by
    intro b o e
    refine hidT_get (KX b o e) ?_
    cases q : H b with
    | none => rfl
    | some u =>
      exfalso
      have e' := hA b (by rw [q]; exact Option.some_ne_none u)
      subst e'
      have z := hK (by rw [q]; exact Option.some_ne_none u)
      rw [z] at e
      cases e
  obtain ⟨mc, l1, l2⟩ := hlim
  have M : Mod K mg (hidT s₁.heap H) := ⟨kG, nsG hns, ⟨mb, nsG hb, hbb⟩, ⟨mc, nsG l1, l2⟩⟩
  have E0' : Env0 P w K mg (hidT s₁.heap H) callerA [] s₁ H :=
    ⟨rfl, M, fun b o e => of_hidT e, Nat.le_of_eq (hidT_size _ _), trivial, (fun b hb => by cases hb), hok, .of_eq hg⟩
  have run := (F _ kG (nsG hns)).go callerA [] s₁ H ⟨[.ref a], []⟩ [.ref a] [.ref a] _ _ rfl hr E0' (hbind s₁ (.ref a)) (.cons rfl .nil) hsp
  apply codeAny_mono run
  intro r s' h
  match r, h with
  | .error e, h => exact False.elim h
  | .ok (.ret u), ⟨v, H', os, bare, un, hok', r', q⟩ =>
    have q' : v = V.bl true := q
    subst q'
    have r2 : u = Value.bool true := r'
    subst r2
    refine ⟨rfl, OldK.of_keep ?_, os, bare⟩
    intro b o e
    cases q : H b with
    | none => exact un.keep b o e q (fun z => by cases z) (fun z => by cases z)
    | some u =>
      obtain z | ⟨ob, xs, z⟩ := hO b
      · rw [z] at q; cases q
      · obtain ⟨e1, _⟩ := hok b _ z
        obtain ⟨e2, _⟩ := hok' b _ (un.frzs b ob _ z)
        rw [e1] at e
        rw [e2, e]
theorem law_callG (KX : K.In s₁.heap) (hns : s₁.heap.Ns mainGlobals mg) (hb : s₁.heap.Ns builtinsNs mb)
    (hbb : ∀ x : Str, x ≠ "__name__" → mb x = bootBuiltins x) (hlim : s₁.heap.NoLimit) (hg : s₁.gens = #[])
    (ha : s₁.heap.get? a = some { cls := .type "list", data := .seq vs.toArray }) (hi : IntsAre vs ns) (hl : ns.length ≤ sizeLine) (hr : Room k callerA)
    (F : ∀ base : Heap, K.In base → base.Ns mainGlobals mg → FnG P w K mg base CX0 k fa fd [x] sp)
    (hbind : ∀ (s : Shared) (u : Value), BindsTo s fd ⟨[u], []⟩ [(x, u)])
    (hsp : ∀ H : Hp, Only H → SqL K H a (ns.map V.int) → sp [.ref a] H (fun v _ => v = .bl true) fun _ _ _ => False) :
    codeAny (model P w) callerA (.call (.ref fa) ⟨[.ref a], []⟩) (LawR s₁) s₁ := by
  have rv := vals_ints hi
  have len : vs.toArray.size ≤ sizeLine := by rw [List.size_toArray, hi.length]; exact hl
  by_cases hk : K.lookup a = none
  · have eq_a : ∀ b : Addr, ¬ b = a → (fun b : Addr => if b = a then some (HO.frz { cls := .type "list", data := .seq vs.toArray } (.lst (ns.map V.int))) else none) b = none := fun b hb => if_neg hb
    have at_a : (fun b : Addr => if b = a then some (HO.frz { cls := .type "list", data := .seq vs.toArray } (.lst (ns.map V.int))) else none) a = some (HO.frz { cls := .type "list", data := .seq vs.toArray } (.lst (ns.map V.int))) := if_pos rfl
    have O : Only (fun b : Addr => if b = a then some (HO.frz { cls := .type "list", data := .seq vs.toArray } (.lst (ns.map V.int))) else none) := by
      intro b
      by_cases hb : b = a
      · exact .inr ⟨_, _, if_pos hb⟩
      · exact .inl (if_neg hb)
    refine lawG_from _ KX hns hb hbb hlim hg ha hr F hbind O ?_ ?_ (fun _ => hk) (hsp _ O (.inl (.inr ⟨_, at_a⟩)))
    · intro b u z
      by_cases hb : b = a
      · subst hb
        rw [at_a] at z
        cases z
        exact ⟨ha, by rw [List.length_map]; exact hl, vs, _, rv, ha⟩
      · rw [eq_a b hb] at z
        cases z
    · intro b z
      by_cases hb : b = a
      · exact hb
      · exact absurd (eq_a b hb) z
  · obtain ⟨o, ho⟩ := Option.ne_none_iff_exists'.mp hk
    have e := KX a o ho
    rw [ha] at e
    cases e
    have O : Only (fun _ => none) := fun _ => .inl rfl
    refine lawG_from (fun _ => none) KX hns hb hbb hlim hg ha hr F hbind O ?_ (fun b z => absurd rfl z) (fun z => absurd rfl z) (hsp _ O (.inr ⟨_, vs.toArray, _, ho, rfl, rfl, rfl, len, by simpa using rv⟩))
    intro b u z
    cases z
end
/-- the end of a law over a head by facts -/
theorem walk_ofG {l : PySem.W.OpenLaw} {n k : Nat} {q : Program} {loose : List Str} {XP : (Str → Option Value) → Heap → Prop} {YP : World → Heap → Prop} {d : DefRec} {x : Str}
    (hn : l.most = some n) (hn2 : n ≤ sizeLine) (hdf : d.params.defaults = []) (hr : Room k callerA)
    (F : ∀ (w : World) (mg : Str → Option Value) (fa : Addr) (h : Heap), YP w h → h.Ns mainGlobals mg → mg d.name = some (.ref fa) →
      ∃ (K : PySem.W.Frag) (fd : FuncData) (sp : Sp), K.In h ∧ (∀ (s : Shared) (u : Value), BindsTo s fd ⟨[u], []⟩ [(x, u)]) ∧
        (∀ (H : Hp) (a : Addr) (ns : List Int), ns.length ≤ n → Only H → SqL K H a (ns.map V.int) → sp [.ref a] H (fun v _ => v = .bl true) fun _ _ _ => False) ∧
        ∀ base : Heap, K.In base → base.Ns mainGlobals mg → FnG l.prog w K mg base CX0 k fa fd [x] sp) :
    PySem.W.WalkO q loose XP YP l.row.toRowW d [] (fun f vs => PySem.call f vs) := by
  apply Att.attach_call hn hdf
  intro w s₀ s₁ mg mb fa o pm cd doc a vs ns G Y ho hd hcd hmg hobj hints hlen hg
  obtain ⟨K, fd, sp, KX, hb, hsp, hF⟩ := F w mg fa _ Y G.T.g hmg
  exact law_callG KX G.T.g G.T.b G.T.builtins G.T.nolimit hg hobj hints (Nat.le_trans hlen hn2) hr hF hb fun H hO hS => hsp H a ns hlen hO hS
end Ly

namespace Ly
open PySem PySem.Spec PyProof.Rows L2
def dOf (x : Str) (st : Stmt) : He.DefD := ⟨(x, none), x, x, defArgs st, defBody st, defScope st, [], []⟩
abbrev FnP (K : PySem.W.Frag) (x : Str) (st : Stmt) (f : Addr) (fd : FuncData) : Prop :=
  FunD K x x (defArgs st) (defBody st) (defScope st) [] [] f fd
theorem saysD_of {fa : List He.Fa} {fn : List He.DefD} {ex : PySem.W.Frag → Bool} {w : World} {h : Heap} {K : PySem.W.Frag}
    (c : He.SaysX fa fn [] [] ex w h K) : He.SaysD fa fn K := c.t.d
/-- a def of the module -/
def Def_ (K : PySem.W.Frag) (mg : Str → Option Value) (x : Str) (st : Stmt) (ps : List Str) : Prop :=
  ∃ f fd, FnP K x st f fd ∧ Binds K fd ps [] ∧ (∀ (s : Shared) (us : List Value), us.length = ps.length → BindsTo s fd ⟨us, []⟩ (ps.zip us)) ∧ mg x = some (.ref f)
/-- .. that keeps a promise -/
structure Ca (P : Program) (w : World) (K : PySem.W.Frag) (mg : Str → Option Value) (base : Heap) (k : Nat) (x : Str) (st : Stmt) (ps : List Str) (sp : Sp) : Prop where
  ex : ∃ f fd, FnOk P w K mg base CX0 k f fd ps sp ∧ FnP K x st f fd ∧ Binds K fd ps [] ∧ mg x = some (.ref f)
structure CaG (P : Program) (w : World) (K : PySem.W.Frag) (mg : Str → Option Value) (base : Heap) (k : Nat) (x : Str) (st : Stmt) (ps : List Str) (sp : Sp) : Prop where
  ex : ∃ f fd, FnG P w K mg base CX0 k f fd ps sp ∧ FnP K x st f fd ∧ Binds K fd ps [] ∧ (∀ (s : Shared) (us : List Value), us.length = ps.length → BindsTo s fd ⟨us, []⟩ (ps.zip us)) ∧ mg x = some (.ref f)
section
variable {P : Program} {w : World} {K : PySem.W.Frag} {mg : Str → Option Value} {base : Heap}
theorem Ca.of {x : Str} {st : Stmt} {N ps : List Str} {k : Nat} {sp : Sp} (D : Def_ K mg x st ps) (S : FnScope N ps (defScope st))
    (len : ∀ vs H Q E, sp vs H Q E → vs.length = ps.length)
    (hb : ∀ (f : Addr) (cdv : Value) (A : Around) (out : List Env) (s : Shared) (H : Hp) (vs : List V) (Q : VK) (E : XK),
      Room k (A.deeper (envOfC x (defScope st) s.heap.objs.size f cdv)) → sp vs H Q E →
      ∃ t, PSs (cxOf CX0 P w K mg base N x (defScope st) f cdv A out s H E).nox (defBody st) t ∧
        t { nx := fun _ H' => Q .non H', rt := Q } (start N vs) H) :
    Ca P w K mg base (k + 1) x st ps sp := by
  obtain ⟨f, fd, F, B, _, g⟩ := D
  refine ⟨f, fd, F.ok S len ?_, F, B, g⟩
  intro cdv A out s H vs Q E hr h
  obtain ⟨t, h1, h2⟩ := hb f cdv A out s H vs Q E hr h
  exact ⟨t, h1.nox, h2⟩
theorem CaG.of {x : Str} {st : Stmt} {N ps : List Str} {k : Nat} {sp : Sp} (D : Def_ K mg x st ps) (S : FnScope N ps (defScope st))
    (len : ∀ vs H Q E, sp vs H Q E → vs.length = ps.length)
    (hb : ∀ (f : Addr) (cdv : Value) (A : Around) (out : List Env) (s : Shared) (H : Hp) (vs : List V) (Q : VK) (E : XK),
      A.guards = some [] → Room k (A.deeper (envOfC x (defScope st) s.heap.objs.size f cdv)) → sp vs H Q E →
      ∃ t, PSs (cxOf CX0 P w K mg base N x (defScope st) f cdv A out s H E).nox (defBody st) t ∧
        t { nx := fun _ H' => Q .non H', rt := Q } (start N vs) H) :
    CaG P w K mg base (k + 1) x st ps sp := by
  obtain ⟨f, fd, F, B, B2, g⟩ := D
  refine ⟨f, fd, fnG_of F S len ?_, F, B, B2, g⟩
  intro cdv A out s H vs Q E hgd hr h
  obtain ⟨t, h1, h2⟩ := hb f cdv A out s H vs Q E hgd hr h
  exact ⟨t, h1.nox, h2⟩
end
section
variable {X : Cx} {k j : Nat} {st : Stmt} {ps : List Str} {sp : Sp} {x : Str} {p pos : Pos} {e : Expr} {es : List Expr} {t tk : TA} {kws : List Keyword}
theorem pe_ca (c : Ca X.prog X.w X.K X.mg X.base k x st ps sp) (hr : Room j X.A) (ha : PA X (e :: es) t) (hg : Gl X x := by rfl) (hj : k ≤ j := by decide)
    (hdb : (x == ("__debug__" : Str)) = false := by decide)
    (he : starEach (e :: es) X.env = (false, eval e X.env) :: starEach es X.env := by rfl)
    (hpl : (backTo pos (starEach es X.env)).any (·.1) = false := by rfl) :
    PE X (.Call (.Name x p) (e :: es) [] pos) (tCall sp [] E0 t) := by
  obtain ⟨f, fd, F, D, B, g⟩ := c.ex
  exact pe_call F (hr.mono hj) hg g D.kp B .nil pass0 ha hdb he hpl
theorem pe_caG (c : CaG X.prog X.w X.K X.mg X.base k x st ps sp) (hgd : X.A.guards = some []) (hr : Room j X.A) (ha : PA X (e :: es) t) (hg : Gl X x := by rfl) (hj : k ≤ j := by decide)
    (hdb : (x == ("__debug__" : Str)) = false := by decide)
    (he : starEach (e :: es) X.env = (false, eval e X.env) :: starEach es X.env := by rfl)
    (hpl : (backTo pos (starEach es X.env)).any (·.1) = false := by rfl) :
    PE X (.Call (.Name x p) (e :: es) [] pos) (tCall sp [] E0 t) := by
  obtain ⟨f, fd, F, D, B, _, g⟩ := c.ex
  exact pe_callG F hgd (hr.mono hj) hg g D.kp B .nil pass0 ha hdb he hpl
end
/-! heaps -/
/-- all but the lists and dicts is kept -/
def Kp (H H' : Hp) : Prop := ∀ b o, H b = some o → (∀ xs, o ≠ .lst xs) → (∀ kvs, o ≠ .dK kvs) → H' b = some o
theorem Same.kp {H H' : Hp} (s : Same H H') : Kp H H' := fun b o e _ _ => s b o e
theorem Kp.refl (H : Hp) : Kp H H := fun _ _ e _ _ => e
theorem Kp.trans {H H1 H2 : Hp} (a : Kp H H1) (b : Kp H1 H2) : Kp H H2 := fun c o e h1 h2 => b c o (a c o e h1 h2) h1 h2
theorem SqT.same {K : PySem.W.Frag} {H H' : Hp} {a : Addr} {xs : List V} (s : Same H H') (h : SqT K H a xs) : SqT K H' a xs := by
  rcases h with (h | ⟨o, h⟩) | h
  · exact .inl (.inl (s _ _ h))
  · exact .inl (.inr ⟨o, s _ _ h⟩)
  · exact .inr h
theorem SqT.kp {K : PySem.W.Frag} {H H' : Hp} {a : Addr} {xs : List V} (s : Kp H H') (h : SqT K H a xs) : SqT K H' a xs := by
  rcases h with (h | ⟨o, h⟩) | h
  · exact .inl (.inl (s _ _ h (fun _ q => nomatch q) (fun _ q => nomatch q)))
  · exact .inl (.inr ⟨o, s _ _ h (fun _ q => nomatch q) (fun _ q => nomatch q)⟩)
  · exact .inr h
theorem same_new {H : Hp} {p : Addr} {o : HO} (h : H p = none) : Same H (upd H p o) := fun b x e => by
  rw [upd_ne (ne_of_none e h)]
  exact e
theorem sqT_new {K : PySem.W.Frag} {H : Hp} {p : Addr} {xs : List V} : SqT K (upd H p (.tup xs)) p xs := .inl (.inl upd_same)
theorem sqL_new {K : PySem.W.Frag} {H : Hp} {p : Addr} {xs : List V} : SqL K (upd H p (.lst xs)) p xs := .inl (.inl upd_same)
/-- nothing that was tracked ahead of a new place is lost when that place is written -/
theorem same_write {H0 H : Hp} {p : Addr} {o : HO} (h0 : H0 p = none) (s : Same H0 H) : Same H0 (upd H p o) := fun b x e => by
  rw [upd_ne (ne_of_none e h0)]
  exact s b x e
end Ly
namespace Ly
open PySem PySem.Spec PyProof.Rows L2
section
variable {X : Cx} {x : Str} {pos : Pos}
theorem pe_globI {i : Int} (h : ∃ t, X.mg x = some (.int i t)) (hg : Gl X x := by rfl) (hd : (x == ("__debug__" : Str)) = false := by decide) : PE X (.Name x pos) (tC (.int i)) := by
  obtain ⟨t, h⟩ := h
  exact pe_glob hg h ⟨t, rfl⟩ hd
theorem tyx_int {K : PySem.W.Frag} {H : Hp} {i : Int} : TyX K H (.int i) (.type "int") := .base (.int _)
theorem tyx_tup {K : PySem.W.Frag} {H : Hp} {a : Addr} {xs : List V} (h : SqT K H a xs) : TyX K H (.ref a) (.type "tuple") := by
  rcases h with (h | ⟨o, h⟩) | ⟨o, its, n, h, c, _⟩
  · exact .base (.tup h)
  · exact .fTuple h
  · exact .kTuple h c
end
end Ly

namespace Ly
open PySem PySem.Spec PyProof.Rows L2 Am
/-! dicts of ints by ints -/
/-- the dict's entries -/
def kd (L : List (Int × Int)) : List (Key × V) := L.map fun q => (Sum.inl q.1, V.int q.2)
/-- d[k] = v -/
def ip (L : List (Int × Int)) (k v : Int) : List (Int × Int) :=
  if (L.any fun q => decide (q.1 = k)) = true then L.map (fun q => if q.1 = k then (q.1, v) else q) else L ++ [(k, v)]
theorem kd_val (k : Int) : ∀ L : List (Int × Int), valV (kd L) (Sum.inl k) = (L.lookup k).map V.int
  | [] => rfl
  | q :: r => by
    rw [List.lookup_cons]
    by_cases h : q.1 = k
    · have h1 : (k == q.1) = true := by simp [h]
      rw [h1]
      exact valV_pos (p := ((Sum.inl q.1 : Key), V.int q.2)) (by rw [h])
    · have h1 : (k == q.1) = false := by simpa using fun z : k = q.1 => h z.symm
      rw [h1]
      exact (valV_neg (p := ((Sum.inl q.1 : Key), V.int q.2)) (fun z => h (Sum.inl.inj z))).trans (kd_val k r)
theorem kd_put (L : List (Int × Int)) (k v : Int) : putK (kd L) (Sum.inl k) (V.int v) = kd (ip L k v) := by
  have e : ((kd L).any fun kv => decide (kv.1 = Sum.inl k)) = L.any fun q => decide (q.1 = k) := by
    unfold kd
    rw [List.any_map]
    congr 1
    funext q
    show decide ((Sum.inl q.1 : Key) = Sum.inl k) = decide (q.1 = k)
    by_cases h : q.1 = k
    · rw [h]; simp
    · rw [decide_eq_false h, decide_eq_false (fun z => h (Sum.inl.inj z))]
  unfold putK ip
  rw [e]
  split
  · unfold kd
    rw [List.map_map, List.map_map]
    congr 1
    funext q
    show (if (Sum.inl q.1 : Key) = Sum.inl k then ((Sum.inl q.1 : Key), V.int v) else (Sum.inl q.1, V.int q.2)) = _
    show _ = ((Sum.inl (if q.1 = k then (q.1, v) else q).1 : Key), V.int (if q.1 = k then (q.1, v) else q).2)
    by_cases h : q.1 = k
    · rw [if_pos h, if_pos (by rw [h])]
    · rw [if_neg h, if_neg (fun z => h (Sum.inl.inj z))]
  · unfold kd
    rw [List.map_append]
    rfl
theorem lookup_append (k : Int) : ∀ (L M : List (Int × Int)), (L ++ M).lookup k = (L.lookup k).or (M.lookup k)
  | [], M => by simp
  | q :: r, M => by
    rw [List.cons_append, List.lookup_cons, List.lookup_cons]
    cases h : (k == q.1) with
    | true => rfl
    | false => exact lookup_append k r M
theorem lookup_none_iff (k : Int) : ∀ (L : List (Int × Int)), L.lookup k = none ↔ ∀ q ∈ L, q.1 ≠ k
  | [] => by simp
  | q :: r => by
    rw [List.lookup_cons]
    cases h : (k == q.1) with
    | true =>
      have : k = q.1 := by simpa using h
      simp [this]
    | false =>
      have h2 : q.1 ≠ k := by
        have : ¬ k = q.1 := by simpa using h
        exact fun z => this z.symm
      simp only [List.mem_cons, forall_eq_or_imp]
      exact ⟨fun z => ⟨h2, (lookup_none_iff k r).mp z⟩, fun z => (lookup_none_iff k r).mpr z.2⟩
theorem lookup_mapset (k v j : Int) : ∀ (L : List (Int × Int)), (L.map fun q => if q.1 = k then (q.1, v) else q).lookup j = if j = k then (L.lookup k).map (fun _ => v) else L.lookup j
  | [] => by simp
  | q :: r => by
    rw [List.map_cons, List.lookup_cons, List.lookup_cons, List.lookup_cons]
    by_cases h : q.1 = k
    · rw [if_pos h]
      by_cases hj : j = k
      · have e1 : (j == q.1) = true := by simp [h, hj]
        have e2 : (k == q.1) = true := by simp [h]
        simp only [hj, e2]
        simp
      · have e1 : (j == q.1) = false := by simpa using fun z : j = q.1 => hj (z.trans h)
        simp only [e1]
        rw [lookup_mapset k v j r, if_neg hj, if_neg hj]
    · rw [if_neg h]
      by_cases hj : j = k
      · subst hj
        have e2 : (j == q.1) = false := by simpa using fun z : j = q.1 => h z.symm
        simp only [e2]
        rw [lookup_mapset j v j r]; simp
      · rw [if_neg hj]
        cases e : (j == q.1) with
        | true => rfl
        | false => exact (lookup_mapset k v j r).trans (if_neg hj)
theorem ip_look (L : List (Int × Int)) (k v j : Int) : (ip L k v).lookup j = if j = k then some v else L.lookup j := by
  unfold ip
  split
  · rename_i h
    rw [lookup_mapset]
    by_cases hj : j = k
    · rw [if_pos hj, if_pos hj]
      cases e : L.lookup k with
      | some u => rfl
      | none =>
        obtain ⟨q, hq, z⟩ := List.any_eq_true.mp h
        exact absurd (of_decide_eq_true z) ((lookup_none_iff k L).mp e q hq)
    · rw [if_neg hj, if_neg hj]
  · rename_i h
    have hn : L.lookup k = none := (lookup_none_iff k L).mpr fun q hq z => h (List.any_eq_true.mpr ⟨q, hq, decide_eq_true z⟩)
    rw [lookup_append]
    by_cases hj : j = k
    · subst hj
      rw [hn, if_pos rfl]
      simp [List.lookup_cons]
    · rw [if_neg hj]
      have e1 : (j == k) = false := by simpa using hj
      simp [List.lookup_cons, e1]
theorem ip_nodup {L : List (Int × Int)} (k v : Int) (h : (L.map (·.1)).Nodup) : ((ip L k v).map (·.1)).Nodup := by
  unfold ip
  split
  · rw [List.map_map]
    have e : ((fun q : Int × Int => q.1) ∘ fun q => if q.1 = k then (q.1, v) else q) = fun q => q.1 := by
      funext q
      show (if q.1 = k then (q.1, v) else q).1 = q.1
      split <;> rfl
    rw [e]; exact h
  · rename_i hk
    rw [List.map_append, List.nodup_append]
    refine ⟨h, by simp, ?_⟩
    intro a ha b hb
    obtain ⟨q, hq, rfl⟩ := List.mem_map.mp ha
    have : b = k := by simpa using hb
    subst this
    exact fun z => hk (List.any_eq_true.mpr ⟨q, hq, decide_eq_true z⟩)
theorem ip_len (L : List (Int × Int)) (k v : Int) : (ip L k v).length ≤ L.length + 1 := by
  unfold ip; split
  · rw [List.length_map]; omega
  · rw [List.length_append]; simp
theorem ip_new {L : List (Int × Int)} {k v : Int} (h : L.lookup k = none) : ip L k v = L ++ [(k, v)] := by
  unfold ip
  rw [if_neg]
  intro z
  obtain ⟨q, hq, z⟩ := List.any_eq_true.mp z
  exact (lookup_none_iff k L).mp h q hq (of_decide_eq_true z)
theorem ip_keys {L : List (Int × Int)} {k v j : Int} (h : j ∈ (ip L k v).map (·.1)) : j = k ∨ j ∈ L.map (·.1) := by
  unfold ip at h
  split at h
  · rw [List.map_map] at h
    obtain ⟨q, hq, e⟩ := List.mem_map.mp h
    right
    refine List.mem_map.mpr ⟨q, hq, ?_⟩
    rw [← e]
    show q.1 = (if q.1 = k then (q.1, v) else q).1
    split <;> rfl
  · rw [List.map_append] at h
    rcases List.mem_append.mp h with h | h
    · exact .inr h
    · exact .inl (by simpa using h)
theorem ig_ip (L : List (Int × Int)) (k v j : Int) : ig (ip L k v) j = if j = k then v else ig L j := by
  unfold ig
  rw [ip_look]
  split <;> rfl
theorem kd_getD (L : List (Int × Int)) (k : Int) : (valV (kd L) (Sum.inl k)).getD (V.int 0) = V.int (ig L k) := by
  rw [kd_val]; unfold ig
  cases L.lookup k <;> rfl
/-! walks over a dict that is locked -/
section
variable {d : Addr} {o : Obj} {kvs : List (Key × V)}
theorem for_vals {g : TG} {tb : TS} {D : Ends} {σ : L2.St} {H : Hp} (Pv : Nat → L2.St → Hp → Prop) (h0 : Pv 0 σ H)
    (hl : ∀ i σ H, Pv i σ H → H d = some (.frz o (.dK kvs)))
    (hs : ∀ i k x σ H, kvs[i]? = some (k, x) → Pv i σ H → g x σ H fun σ2 H2 => tb { D with nx := Pv (i + 1), ct := Pv (i + 1), bk := D.nx } σ2 H2)
    (hd : ∀ σ H, Pv kvs.length σ H → D.nx σ H) :
    ∃ W : Nat → Nat → L2.St → Hp → Prop, (∃ m, W 0 m σ H) ∧ ∀ i m σ H, W i m σ H →
      ((Itd d o kvs).stop i H ∧ D.nx σ H) ∨ ((Itd d o kvs).go i H ∧ ∃ N : L2.St → Hp → Prop, (∀ σ' H', N σ' H' → ∃ m', m' < m ∧ W (i + 1) m' σ' H') ∧
        ∀ x H', (Itd d o kvs).yld i H x H' → g x σ H' fun σ2 H2 => tb { D with nx := N, ct := N, bk := D.nx } σ2 H2) := by
  refine ⟨fun i m σ H => m = kvs.length - i ∧ i ≤ kvs.length ∧ Pv i σ H, ⟨_, rfl, Nat.zero_le _, h0⟩, ?_⟩
  rintro i m σ H ⟨rfl, hi, p⟩
  by_cases lt : i < kvs.length
  · refine Or.inr ⟨⟨hl i σ H p, lt⟩, Pv (i + 1), fun σ' H' p' => ⟨kvs.length - (i + 1), by omega, rfl, lt, p'⟩, ?_⟩
    rintro x H' ⟨rfl, k, e⟩
    exact hs i k x σ _ e p
  · have e : i = kvs.length := by omega
    subst e
    exact Or.inl ⟨⟨hl _ σ H p, Nat.le_refl _⟩, hd σ H p⟩
theorem for_items {g : TG} {tb : TS} {D : Ends} {σ : L2.St} {H : Hp} (Pv : Nat → L2.St → Hp → Prop) (h0 : Pv 0 σ H)
    (hl : ∀ i σ H, Pv i σ H → H d = some (.frz o (.dK kvs)))
    (hs : ∀ i k x T σ H, kvs[i]? = some (k, x) → Pv i σ H → H T = none → g (.ref T) σ (upd H T (.tup [kV k, x])) fun σ2 H2 => tb { D with nx := Pv (i + 1), ct := Pv (i + 1), bk := D.nx } σ2 H2)
    (hd : ∀ σ H, Pv kvs.length σ H → D.nx σ H) :
    ∃ W : Nat → Nat → L2.St → Hp → Prop, (∃ m, W 0 m σ H) ∧ ∀ i m σ H, W i m σ H →
      ((Iti d o kvs).stop i H ∧ D.nx σ H) ∨ ((Iti d o kvs).go i H ∧ ∃ N : L2.St → Hp → Prop, (∀ σ' H', N σ' H' → ∃ m', m' < m ∧ W (i + 1) m' σ' H') ∧
        ∀ x H', (Iti d o kvs).yld i H x H' → g x σ H' fun σ2 H2 => tb { D with nx := N, ct := N, bk := D.nx } σ2 H2) := by
  refine ⟨fun i m σ H => m = kvs.length - i ∧ i ≤ kvs.length ∧ Pv i σ H, ⟨_, rfl, Nat.zero_le _, h0⟩, ?_⟩
  rintro i m σ H ⟨rfl, hi, p⟩
  by_cases lt : i < kvs.length
  · refine Or.inr ⟨⟨hl i σ H p, lt⟩, Pv (i + 1), fun σ' H' p' => ⟨kvs.length - (i + 1), by omega, rfl, lt, p'⟩, ?_⟩
    rintro x H' ⟨T, k, v, e, rfl, nT, rfl⟩
    exact hs i k v T σ H e p nT
  · have e : i = kvs.length := by omega
    subst e
    exact Or.inl ⟨⟨hl _ σ H p, Nat.le_refl _⟩, hd σ H p⟩
theorem lc_items {g : TG} {tt : TT} {te : TE} {vs : List Nat} {σ : L2.St} {H1 : Hp} {D : Addr} {Qd : Hp → Prop} (Pv : Nat → Hp → Prop) (h0 : Pv 0 (upd H1 D (.lst [])))
    (hl : ∀ i H, Pv i H → H d = some (.frz o (.dK kvs)))
    (hs : ∀ i k x T H, kvs[i]? = some (k, x) → Pv i H → H T = none → g (.ref T) (wipe σ vs) (upd H T (.tup [kV k, x])) fun σ2 H2 => wipe σ2 vs = wipe σ vs ∧ tt σ2 H2 fun b H3 =>
      if b = true then te σ2 H3 fun y H4 => ∃ acc, H4 D = some (.lst acc) ∧ acc.length < sizeLine ∧ Pv (i + 1) (upd H4 D (.lst (acc ++ [y]))) else Pv (i + 1) H3) (hd : ∀ H, Pv kvs.length H → Qd H) :
    ∃ W : Nat → Nat → Hp → Prop, (∃ m, W 0 m (upd H1 D (.lst []))) ∧ ∀ i m H, W i m H →
      ((Iti d o kvs).stop i H ∧ Qd H) ∨ ((Iti d o kvs).go i H ∧ ∃ Nx : Hp → Prop, (∀ H', Nx H' → ∃ m', m' < m ∧ W (i + 1) m' H') ∧ ∀ x H', (Iti d o kvs).yld i H x H' → g x (wipe σ vs) H' fun σ2 H2 => wipe σ2 vs = wipe σ vs ∧ tt σ2 H2 fun b H3 =>
        if b = true then te σ2 H3 fun y H4 => ∃ acc, H4 D = some (.lst acc) ∧ acc.length < sizeLine ∧ Nx (upd H4 D (.lst (acc ++ [y]))) else Nx H3) := by
  refine ⟨fun i m H => m = kvs.length - i ∧ i ≤ kvs.length ∧ Pv i H, ⟨_, rfl, Nat.zero_le _, h0⟩, ?_⟩
  rintro i m H ⟨rfl, hi, p⟩
  by_cases lt : i < kvs.length
  · refine Or.inr ⟨⟨hl i H p, lt⟩, Pv (i + 1), fun H' p' => ⟨kvs.length - (i + 1), by omega, rfl, lt, p'⟩, ?_⟩
    rintro x H' ⟨T, k, v, e, rfl, nT, rfl⟩
    exact hs i k v T H e p nT
  · have e : i = kvs.length := by omega
    subst e
    exact Or.inl ⟨⟨hl _ H p, Nat.le_refl _⟩, hd H p⟩
theorem lc_keys {g : TG} {tt : TT} {te : TE} {vs : List Nat} {σ : L2.St} {H1 : Hp} {D : Addr} {Qd : Hp → Prop} (Pv : Nat → Hp → Prop) (h0 : Pv 0 (upd H1 D (.lst [])))
    (hl : ∀ i H, Pv i H → H d = some (.frz o (.dK kvs)))
    (hs : ∀ i k x H, kvs[i]? = some (k, x) → Pv i H → g (kV k) (wipe σ vs) H fun σ2 H2 => wipe σ2 vs = wipe σ vs ∧ tt σ2 H2 fun b H3 =>
      if b = true then te σ2 H3 fun y H4 => ∃ acc, H4 D = some (.lst acc) ∧ acc.length < sizeLine ∧ Pv (i + 1) (upd H4 D (.lst (acc ++ [y]))) else Pv (i + 1) H3) (hd : ∀ H, Pv kvs.length H → Qd H) :
    ∃ W : Nat → Nat → Hp → Prop, (∃ m, W 0 m (upd H1 D (.lst []))) ∧ ∀ i m H, W i m H →
      ((Itk d o kvs).stop i H ∧ Qd H) ∨ ((Itk d o kvs).go i H ∧ ∃ Nx : Hp → Prop, (∀ H', Nx H' → ∃ m', m' < m ∧ W (i + 1) m' H') ∧ ∀ x H', (Itk d o kvs).yld i H x H' → g x (wipe σ vs) H' fun σ2 H2 => wipe σ2 vs = wipe σ vs ∧ tt σ2 H2 fun b H3 =>
        if b = true then te σ2 H3 fun y H4 => ∃ acc, H4 D = some (.lst acc) ∧ acc.length < sizeLine ∧ Nx (upd H4 D (.lst (acc ++ [y]))) else Nx H3) := by
  refine ⟨fun i m H => m = kvs.length - i ∧ i ≤ kvs.length ∧ Pv i H, ⟨_, rfl, Nat.zero_le _, h0⟩, ?_⟩
  rintro i m H ⟨rfl, hi, p⟩
  by_cases lt : i < kvs.length
  · refine Or.inr ⟨⟨hl i H p, lt⟩, Pv (i + 1), fun H' p' => ⟨kvs.length - (i + 1), by omega, rfl, lt, p'⟩, ?_⟩
    rintro x H' ⟨rfl, k, v, e, rfl⟩
    exact hs i k v _ e p
  · have e : i = kvs.length := by omega
    subst e
    exact Or.inl ⟨⟨hl _ H p, Nat.le_refl _⟩, hd H p⟩
end
/-! amounts as they stand -/
/-- the pairs of the parts -/
def PairsAt (K : PySem.W.Frag) (H : Hp) (rs : List Addr) (L : List (Int × Int)) : Prop := Paired (fun r q => SqT K H r [V.int q.1, V.int q.2]) rs L
def AmtAt (K : PySem.W.Frag) (H : Hp) (v : V) (d : Int) (L : List (Int × Int)) : Prop :=
  ∃ a b rs, v = V.ref a ∧ SqT K H a [.int d, .ref b] ∧ SqT K H b (rs.map V.ref) ∧ PairsAt K H rs L
theorem PairsAt.kp {K : PySem.W.Frag} {H H' : Hp} {rs : List Addr} {L : List (Int × Int)} (s : Kp H H') (h : PairsAt K H rs L) : PairsAt K H' rs L := Paired.mapP h fun _ _ q => SqT.kp s q
theorem AmtAt.kp {K : PySem.W.Frag} {H H' : Hp} {v : V} {d : Int} {L : List (Int × Int)} (s : Kp H H') (h : AmtAt K H v d L) : AmtAt K H' v d L := by
  obtain ⟨a, b, rs, e, h1, h2, h3⟩ := h
  exact ⟨a, b, rs, e, SqT.kp s h1, SqT.kp s h2, h3.kp s⟩
theorem AmtAt.same {K : PySem.W.Frag} {H H' : Hp} {v : V} {d : Int} {L : List (Int × Int)} (s : Same H H') (h : AmtAt K H v d L) : AmtAt K H' v d L := h.kp (Ly.Same.kp s)
theorem Paired.at' {α β : Type} {F : α → β → Prop} : ∀ {l₁ : List α} {l₂ : List β} {i : Nat} {x : α}, Paired F l₁ l₂ → l₁[i]? = some x → ∃ y, l₂[i]? = some y ∧ F x y
  | _, _, _, _, .nil, e => by simp at e
  | _, _, 0, _, .cons r _, e => by simp at e; subst e; exact ⟨_, rfl, r⟩
  | _, _, i + 1, x, .cons _ t, e => by
    obtain ⟨u, h1, h2⟩ := Paired.at' (i := i) (x := x) t (by simpa using e)
    exact ⟨u, by simpa using h1, h2⟩
/-- the data of an amount -/
def amtD (d : Int) (L : List (Int × Int)) : PyData := .tuple [.int d, .tuple (L.map fun q => .tuple [.int q.1, .int q.2])]
theorem pairs_dp {K : PySem.W.Frag} {H : Hp} : ∀ {rs : List Addr} {L : List (Int × Int)}, PairsAt K H rs L → DpAll K H (rs.map V.ref) (L.map fun q => .tuple [.int q.1, .int q.2])
  | _, _, .nil => .nil
  | _, _, .cons h t => .cons (.tup h (.cons (.int _) (.cons (.int _) .nil))) (pairs_dp t)
theorem AmtAt.dp {K : PySem.W.Frag} {H : Hp} {v : V} {d : Int} {L : List (Int × Int)} (h : AmtAt K H v d L) : Dp K H v (amtD d L) := by
  obtain ⟨a, b, rs, rfl, h1, h2, h3⟩ := h
  exact .tup h1 (.cons (.int _) (.cons (.tup h2 (pairs_dp h3)) .nil))
end Ly

namespace Ly
open PySem PySem.Spec PyProof.Rows L2
/-! rules whose reading names the written part, said with a name for it (within a comprehension's block) -/
section
variable {X : Cx} {K : PySem.W.Frag}
theorem ix_tupK (h : X.K = K := by rfl) : IxR X (rIxT K) := h ▸ ix_tup
theorem ix_listK (h : X.K = K := by rfl) : IxR X (rIxL K) := h ▸ ix_list
theorem call_len_seqK (h : X.K = K := by rfl) : CallR X (.builtin "len") (fun xs H Q => ∃ p ys, xs = [.ref p] ∧ (SqL K H p ys ∨ SqT K H p ys) ∧ Q (.int ys.length) H) := h ▸ call_len_seq
theorem call_list_ofK (h : X.K = K := by rfl) : CallR X (.type "list") (fun xs H Q => ∃ p ys, xs = [.ref p] ∧ (SqL K H p ys ∨ SqT K H p ys) ∧ ∀ l, H l = none → Q (.ref l) (upd H l (.lst ys))) := h ▸ call_list_of
theorem call_tuple_ofK (h : X.K = K := by rfl) : CallR X (.type "tuple") (fun xs H Q => ∃ p ys, xs = [.ref p] ∧ ((SqL K H p ys ∧ ∀ l, H l = none → Q (.ref l) (upd H l (.tup ys))) ∨ (SqT K H p ys ∧ Q (.ref p) H))) := h ▸ call_tuple_of
theorem call_isiK (h : X.K = K := by rfl) : CallR X (.builtin "isinstance") (rIsi K) := h ▸ call_isi
theorem cr_sumTK (hc : X.calm = true) (h : X.K = K := by rfl) : CallR X (.builtin "sum") (rSumT K) := h ▸ cr_sumT hc
theorem cr_sumK (hc : X.calm = true) (h : X.K = K := by rfl) : CallR X (.builtin "sum") (rSum K) := h ▸ cr_sum hc
theorem cr_allK (hc : X.calm = true) (h : X.K = K := by rfl) : CallR X (.builtin "all") (rAll K) := h ▸ cr_all hc
theorem op_eqDK (hu : X.A.units + 64 < cLine) (h : X.K = K := by rfl) : OpR X (compareOp .Eq) (rEqD K) := h ▸ op_eqD hu
theorem op_neDK (hu : X.A.units + 64 < cLine) (h : X.K = K := by rfl) : OpR X (compareOp .NotEq) (rNeD K) := h ▸ op_neD hu
theorem op_catAK (h : X.K = K := by rfl) : OpR X (binaryOp .Add) (rCatA K) := h ▸ op_catA
theorem op_in_seqK (h : X.K = K := by rfl) : OpR X (compareOp .In) (rIn K false) := h ▸ op_in_seq
theorem op_notIn_seqK (h : X.K = K := by rfl) : OpR X (compareOp .NotIn) (rIn K true) := h ▸ op_notIn_seq
theorem sl_listK (h : X.K = K := by rfl) : SlR X (rSlL K) := h ▸ sl_list
theorem sl_tupAK (h : X.K = K := by rfl) : SlR X (rSlA K) := h ▸ sl_tupA
theorem pi_listK {tg l : Expr} {tl : TE} (hl : PE X l tl) (h : X.K = K := by rfl) : PI X tg l (iList K tl) := h ▸ pi_list hl
theorem pi_tupK {tg l : Expr} {tl : TE} (hl : PE X l tl) (h : X.K = K := by rfl) : PI X tg l (iTup K tl) := h ▸ pi_tup hl
theorem pg_tupK {es : List Expr} {k : Nat} {pos : Pos} {t : TGs} (n : Nat) (hc : X.calm = true) (hp : PGs X es t) (h : X.K = K := by rfl)
    (hn : (assignEach es X.env).length = n := by rfl) (hst : (assignEach es X.env).findIdx? (·.1) = none := by rfl) : PG X (.Tuple es k pos) (gTup K n t) := by
  subst h
  exact pg_tup hc hp hn hst
end

/-! pairs of ints, each in a tuple of its own -/
def TrP (H : Hp) (rs : List Addr) (L : List (Int × Int)) : Prop := Paired (fun r q => H r = some (.tup [V.int q.1, V.int q.2])) rs L
theorem TrP.pairs {K : PySem.W.Frag} {H : Hp} {rs : List Addr} {L : List (Int × Int)} (h : TrP H rs L) : PairsAt K H rs L := Paired.mapP h fun _ _ q => .inl (.inl q)
theorem TrP.same {H H' : Hp} {rs : List Addr} {L : List (Int × Int)} (s : Same H H') (h : TrP H rs L) : TrP H' rs L := Paired.mapP h fun _ _ q => s _ _ q
theorem TrP.kp {H H' : Hp} {rs : List Addr} {L : List (Int × Int)} (s : Kp H H') (h : TrP H rs L) : TrP H' rs L := Paired.mapP h fun _ _ q => s _ _ q (fun _ z => nomatch z) (fun _ z => nomatch z)
theorem paired_snoc {α β : Type} {F : α → β → Prop} {x : α} {y : β} (h : F x y) : ∀ {l : List α} {m : List β}, Paired F l m → Paired F (l ++ [x]) (m ++ [y])
  | _, _, .nil => .cons h .nil
  | _, _, .cons r t => .cons r (paired_snoc h t)
/-- the pair at a place -/
def kOf (H : Hp) : V → Int × Int
  | .ref t => match H t with
    | some (.tup [.int a, .int b]) => (a, b)
    | _ => (0, 0)
  | _ => (0, 0)
def adr : V → Addr
  | .ref t => t
  | _ => 0
theorem kOf_at {H : Hp} {t : Addr} {a b : Int} (h : H t = some (.tup [.int a, .int b])) : kOf H (.ref t) = (a, b) := by
  show (match H t with | some (.tup [.int a, .int b]) => (a, b) | _ => (0, 0)) = _
  rw [h]
theorem TrP.keys {H : Hp} : ∀ {rs : List Addr} {L : List (Int × Int)}, TrP H rs L → (rs.map V.ref).map (kOf H) = L
  | _, _, .nil => rfl
  | _, _, .cons h t => by
    rw [List.map_cons, List.map_cons, TrP.keys t, kOf_at h]
theorem TrP.mem {H : Hp} : ∀ {rs : List Addr} {L : List (Int × Int)}, TrP H rs L → ∀ x ∈ rs.map V.ref, ∃ t, x = V.ref t ∧ H t = some (.tup [.int (kOf H x).1, .int (kOf H x).2])
  | _, _, .nil, x, hx => by cases hx
  | _, _, .cons (a := r) h t, x, hx => by
    rcases List.mem_cons.mp hx with e | hx
    · subst e
      refine ⟨_, rfl, ?_⟩
      rw [kOf_at h]; exact h
    · exact TrP.mem t x hx
theorem trp_of {H : Hp} : ∀ ys : List V, (∀ x ∈ ys, ∃ t, x = V.ref t ∧ H t = some (.tup [.int (kOf H x).1, .int (kOf H x).2])) → ys = (ys.map adr).map V.ref ∧ TrP H (ys.map adr) (ys.map (kOf H))
  | [], _ => ⟨rfl, .nil⟩
  | y :: r, h => by
    obtain ⟨t, e, h1⟩ := h y List.mem_cons_self
    obtain ⟨h2, h3⟩ := trp_of r fun x hx => h x (List.mem_cons_of_mem _ hx)
    subst e
    refine ⟨?_, .cons h1 h3⟩
    show V.ref t :: r = V.ref t :: (r.map adr).map V.ref
    rw [← h2]
theorem sorted_pairs {H : Hp} {rs : List Addr} {L : List (Int × Int)} {ys : List V} (h : TrP H rs L) (nd : (L.map (·.1)).Nodup) (s1 : SrtO.Srtd (ltP (kOf H)) ys) (s2 : SrtO.Stb (ltP (kOf H)) ys (rs.map V.ref)) :
    ∃ rs' L', ys = rs'.map V.ref ∧ TrP H rs' L' ∧ L'.Perm L ∧ L'.Pairwise (fun a b => a.1 < b.1) := by
  have hm := h.mem
  obtain ⟨e1, e2⟩ := trp_of ys fun x hx => hm x (s2.perm.mem_iff.mp hx)
  have pm : (ys.map (kOf H)).Perm L := by
    have := s2.perm.map (kOf H)
    rw [h.keys] at this
    exact this
  refine ⟨_, _, e1, e2, pm, ?_⟩
  have nd2 : ((ys.map (kOf H)).map (·.1)).Nodup := (pm.map (·.1)).nodup_iff.mpr nd
  rw [List.Nodup, List.pairwise_map] at nd2
  have s3 : (ys.map (kOf H)).Pairwise (fun x y => SrtO.lexB y x = false) := List.pairwise_map.mpr s1
  refine (nd2.and s3).imp ?_
  rintro a b ⟨h1, h2⟩
  have := SrtO.lexB_no.mp h2
  omega
end Ly

namespace Ly
open PySem PySem.Spec PyProof.Rows L2
section
variable {X : Cx}
theorem sw_trueD {kx vx : Expr} {gs : List Comprehension} {scope : Scope} {pos py : Pos} {y : Str} {l : Nat} {env : Env}
    (k1 : env.scope.kind = .function) (k2 : env.scope.names.lookup y = some .local)
    (k3 : (py.line == pos.line) = true)
    (k4 : (scope.names.any fun (n, k) => n == y && (k == .local || k == .cell)) = false) :
    swapsWith (.DictComp kx vx gs scope pos) (some (.Name y py)) l env = pure true := by
  have a1 : env.kindOf y = some .local := k2
  have a2 : env.blockKind = .function := by
    unfold Env.blockKind
    rw [k1]
    rfl
  unfold swapsWith
  simp only [a1, a2, k4, Expr.pos, k3]
  rfl
/-- y = {..} in one row, y a local -/
theorem ps_setDc {i : Nat} {y : Str} {py : Pos} {kx vx tg iter : Expr} {ifs : List Expr} {scope : Scope}
    {own : List (Str × Nat)} {pos spos : Pos} {wi : TI} {g : TG} {tt : TT} {tk tv : TE}
    (hc : X.calm = true) (hN : X.N.Nodup) (hy : X.N[i]? = some y)
    (hyl : X.env.scope.names.lookup y = some .local)
    (hsw : swapsWith (.DictComp kx vx [⟨tg, iter, ifs, 0⟩] scope pos) (some (.Name y py)) spos.line X.env = pure true)
    (hi : PI X tg iter wi) (ok : BlkOk X.N X.env.scope scope own)
    (hg : ∀ (s : Shared) (H : Hp) (C : Addr) (cl : List (Str × Addr)) (fp : List Addr),
      PG (X.blk s H scope (compEnvC scope cl C X.env) fp) tg g)
    (ht : ∀ (s : Shared) (H : Hp) (C : Addr) (cl : List (Str × Addr)) (fp : List Addr),
      PTs (X.blk s H scope (compEnvC scope cl C X.env) fp) ifs tt)
    (hk : ∀ (s : Shared) (H : Hp) (C : Addr) (cl : List (Str × Addr)) (fp : List Addr),
      PE (X.blk s H scope (compEnvC scope cl C X.env) fp) kx tk)
    (he : ∀ (s : Shared) (H : Hp) (C : Addr) (cl : List (Str × Addr)) (fp : List Addr),
      PE (X.blk s H scope (compEnvC scope cl C X.env) fp) vx tv)
    (hs : ∀ x, foldedSetIterable iter X.env x = pure x := by intro _; rfl) :
    PS X (.Assign [.Name y py] (.DictComp kx vx [⟨tg, iter, ifs, 0⟩] scope pos) spos)
      (tAsg (tDc wi g tt tk tv (own.map (·.2))) (gName i)) := by
  constructor
  intro pins s σ H D I h
  rw [exec_Assign_Name_used _ _ _ _ hsw]
  refine wpAny_bind (wpAny_standAt (wpAny_bind ?_))
  show wpAny _ X.A (do
    let _ ← comprehension (.DictComp kx vx [⟨tg, iter, ifs, 0⟩] scope pos) scope X.env
      (firstIterPos [⟨tg, iter, ifs, 0⟩] pos) newDict false (eval iter X.env)
      (some (assign (.Name y py) X.env))) _ _ s
  have h : tDc wi g tt tk tv (own.map (·.2)) σ H (fun x H1 => gName i x σ H1 D.nx) := h
  have core := dc_core (Qf := fun _ s' => SP X pins D .next s') (use := some (assign (.Name y py) X.env))
    (pos := pos) (pos' := firstIterPos [⟨tg, iter, ifs, 0⟩] pos) hc hN I hi ok hg ht hk he hs h
  refine wpAny_bind (thn (core fun L C s' m H' I' q hn f => ?_) fun _ s' hq => wpAny_pure (wpAny_pure hq))
  show wpAny _ _ (assign (.Name y py) X.env (.ref L)) _ _ _
  obtain ⟨f0, f1, f2, f3, f4, f5⟩ := f
  refine wpAny_assign_Name (store_ok2 (v := V.ref L) I' hN hy (.inl hyl) rfl ?_ (.inr hyl))
  intro s2 I2 ⟨a, sb, ha⟩
  have neq : C ≠ a := by
    cases ha with
    | inl z => rw [z]; exact f1
    | inr z => exact fun e => f4 y a z e.symm
  refine ⟨m, hn.sameBut sb neq, fun h3 sb3 => ?_⟩
  refine ⟨_, H', I2.turned (t' := s2.toks) ?_ f0 f1 f3 f4 f5, q⟩
  intro b o hb e
  exact (sb3.2 b hb).trans e
end
/-! f(k = v) over a promise by name -/
section
variable {X : Cx} {k j : Nat} {st : Stmt} {ps ks : List Str} {sp : Sp} {x : Str} {p pos : Pos} {tk : TA} {kws : List Keyword}
end
/-! zip of a list and a tuple -/
def ItzM (K : PySem.W.Frag) (a b : Addr) : It where
  go := fun i H => ∃ (xs ys : List V) (x y : V),
    SqL K H a xs ∧ SqT K H b ys ∧ xs[i]? = some x ∧ ys[i]? = some y
  yld := fun i H v H' => ∃ T x y, v = .ref T ∧ H T = none ∧ H' = upd H T (.tup [x, y]) ∧
    (∀ xs, SqL K H a xs → xs[i]? = some x) ∧ ∀ ys, SqT K H b ys → ys[i]? = some y
  stop := fun i H => ∃ xs ys : List V, SqL K H a xs ∧ SqT K H b ys ∧ i ≤ xs.length ∧ i ≤ ys.length ∧ (i = xs.length ∨ i = ys.length)
theorem walk_zipM {K : PySem.W.Frag} {a b : Addr} {xs ys : List V} {n : Nat} (hn : n = min xs.length ys.length) :
    Walk (ItzM K a b) n (fun H => SqL K H a xs ∧ SqT K H b ys) (YPair (fun i => xs[i]?) (fun i => ys[i]?)) := by
  constructor
  · rintro i H hi ⟨h1, h2⟩
    have a1 : i < xs.length := by omega
    have a2 : i < ys.length := by omega
    exact ⟨xs, ys, xs[i], ys[i], h1, h2, by simp [a1], by simp [a2]⟩
  · rintro H ⟨h1, h2⟩
    exact ⟨xs, ys, h1, h2, by omega, by omega, by omega⟩
  · rintro i H v H' _ ⟨h1, h2⟩ ⟨T, x, z, e1, e2, e3, e4, e5⟩
    exact ⟨T, x, z, e1, e2, e3, e4 xs h1, e5 ys h2⟩
end Ly

namespace Ly
open PySem PySem.Spec PyProof.Rows L2
/-! tuple * 0, tuple * 1 -/
theorem tup_mul1 (l : Addr) (items : Array Value) (n : Nat) (dd : Option Addr) (sl : Array (Option Value)) (u : Tok) :
    Meets (Builtin.«tuple.__mul__» ⟨[.ref l, .int 1 u], []⟩) (fun _ R s =>
      s.heap.get? l = some { cls := .type "tuple", dict := dd, data := .seq items n, slots := sl } ∧ R (.ok (.ret (Value.ref l))) s) :=
  .of_wp fun prog w A R s h => by
    obtain ⟨hp, g, d, tk, os⟩ := s
    obtain ⟨hl, h⟩ := h
    have f1 := AutoSeq1.idx_int
    wp_walk using wpAny_loadPart' hl
    exact ⟨_, rfl, h⟩
theorem tup_mul0 (l : Addr) (items : Array Value) (n : Nat) (dd : Option Addr) (sl : Array (Option Value)) (u : Tok)
    (c1 : (items.isEmpty || (0 : Int) == 1) = false) :
    Meets (Builtin.«tuple.__mul__» ⟨[.ref l, .int 0 u], []⟩) (fun _ R s =>
      s.heap.get? l = some { cls := .type "tuple", dict := dd, data := .seq items n, slots := sl } ∧
      R (.ok (.ret (Value.ref s.heap.objs.size))) { s with heap := s.heap.push { cls := Value.type "tuple", data := Data.seq #[] }, toks := s.toks }) :=
  .of_wp fun prog w A R s h => by
    obtain ⟨hp, g, d, tk, os⟩ := s
    obtain ⟨hl, h⟩ := h
    have f1 := AutoSeq1.idx_int
    wp_walk using wpAny_loadPart' hl
    refine wpAny_ite_false (decide_eq_false (by rw [c1]; exact Bool.false_ne_true)) ?_
    wp_walk using wpAny_loadPart' hl
    exact ⟨_, rfl, h⟩
/-- a tuple times 0, 1, 2, .. -/
def rRepA (K : PySem.W.Frag) : R2 := fun x y H Q => ∃ l k xs, x = .ref l ∧ y = .int k ∧ SqT K H l xs ∧ xs ≠ [] ∧ 0 ≤ k ∧ k ≤ 1000 ∧ xs.length ≤ 1000 ∧
  (k = 1 → Q (.ref l) H) ∧ (k ≠ 1 → ∀ p, H p = none → Q (.ref p) (upd H p (.tup (List.replicate k.toNat xs).flatten)))
section
variable {X : Cx}
theorem op_repA : OpR X (binaryOp .Mult) (rRepA X.K) := by
  intro pins s σ H x y v u Q I rx ry h
  obtain ⟨l, k, xs, rfl, rfl, hT, hne, h1, h2, hz, q1, q2⟩ := h
  by_cases k2 : 2 ≤ k
  · exact op_repT pins s σ H _ _ v u Q I rx ry ⟨l, k, xs, rfl, rfl, hT, hne, k2, h2, hz, q2 (by omega)⟩
  cases rx
  obtain ⟨t, rfl⟩ := ry
  obtain ⟨its, r, ⟨⟨cls, dd, data, sl⟩, ho, hc, n, hd⟩, hs⟩ := I.tuple hT
  simp only at hc hd
  subst hc hd
  have ni : its.toArray.isEmpty = false := by
    cases its with
    | nil => exact absurd (List.eq_nil_of_length_eq_zero r.length) hne
    | cons a b => rfl
  by_cases k1 : k = 1
  · subst k1
    refine wpAny_binaryOp_repeat_ref (T := "tuple") (U := "int") (by decide) ⟨_, ho, rfl⟩ (fun s' => typeIs_int s' 1 t) noFill_tuple_mul F.fills_int_mul F.slot_int_rmul repeat_tuple F.slot_int_index.lookup
      (call_meets F.slot_int_rmul (typeIs_int s 1 t) F.entry_int_rmul (F.args_int_rmul_2 _ _) (int_rmul_tuple 1 t l its.toArray n dd sl)
        ⟨ho, rfl, ⟨_, ho, rfl⟩, ?_⟩)
    refine call_meets F.slot_tuple_mul ⟨_, ho, rfl⟩ F.entry_tuple_mul (F.args_tuple_mul_2 _ _) (tup_mul1 l its.toArray n dd sl t) ⟨ho, ?_⟩
    exact ⟨.ref l, H, I, rfl, q1 rfl⟩
  · have k0 : k = 0 := by omega
    subst k0
    have c1 : (its.toArray.isEmpty || (0 : Int) == 1) = false := by rw [ni]; rfl
    refine wpAny_binaryOp_repeat_ref (T := "tuple") (U := "int") (by decide) ⟨_, ho, rfl⟩ (fun s' => typeIs_int s' 0 t) noFill_tuple_mul F.fills_int_mul F.slot_int_rmul repeat_tuple F.slot_int_index.lookup
      (call_meets F.slot_int_rmul (typeIs_int s 0 t) F.entry_int_rmul (F.args_int_rmul_2 _ _) (int_rmul_tuple 0 t l its.toArray n dd sl)
        ⟨ho, rfl, ⟨_, ho, rfl⟩, ?_⟩)
    refine call_meets F.slot_tuple_mul ⟨_, ho, rfl⟩ F.entry_tuple_mul (F.args_tuple_mul_2 _ _) (tup_mul0 l its.toArray n dd sl t c1) ⟨ho, ?_⟩
    have z := q2 (by decide) s.heap.objs.size (I.hok.fresh (Nat.le_refl _))
    refine ⟨.ref s.heap.objs.size, _, I.laid (t' := s.toks) (o := .tup []) (fun b o e => Heap.get?_push_of_some _ e) (Nat.le_refl _) ?_, rfl, z⟩
    exact ⟨by show 0 ≤ sizeLine; omega, [], .nil, IsTup.new s.heap #[]⟩
end
end Ly

namespace Ly
open PySem PySem.Spec PyProof.Rows L2
/-! zip of a list and a tuple: by the library's iterators of any kind -/
theorem sepM {z TI TO i1 i2 a b : Addr} (D : ZipApart z TI TO i1 i2 a b) : ZipSep2 z TI TO i1 i2 [i1, a] [i2, b] where
  TIz := D.TIz
  TOz := D.TOz
  TITO := D.TITO
  TIi1 := D.TIi1
  mem1 := List.mem_cons_self
  zf1 := by simp; exact ⟨D.i1z.symm, D.l1z.symm⟩
  Tf1 := by simp; exact ⟨D.TOi1, D.l1TO.symm⟩
  TIi2 := D.TIi2
  mem2 := List.mem_cons_self
  zf2 := by simp; exact ⟨D.i2z.symm, D.l2z.symm⟩
  Tf2 := by simp; exact ⟨D.TOi2, D.l2TO.symm⟩
  sep1_2 := by simp; exact ⟨D.i12, D.l2i1.symm⟩
  sep2_1 := by simp; exact ⟨D.i12.symm, D.l1i2.symm⟩
/-- how the five cells stand at turn i -/
def StM (z TI TO i1 i2 a b : Addr) (i : Nat) (h : Heap) : Prop :=
  IsZip h z TI TO .none ∧ IsPair h TI (.ref i1) (.ref i2) ∧ (∃ x y, IsPair h TO x y) ∧
    h.IsListIter i1 a i ∧ h.IsTupleIter i2 b i
theorem five {z TI TO i1 i2 c : Addr} (h : c ∈ [z, TI, TO, i1, i2]) : c = z ∨ c = TI ∨ c = TO ∨ c = i1 ∨ c = i2 := by
  simpa using h
theorem turn_zipM {P : Program} {w : World} {K : PySem.W.Frag} {elts : List Expr} {kk : Nat} {tpos : Pos}
    {a b z TI TO i1 i2 : Addr} (D : ZipApart z TI TO i1 i2 a b) :
    Turn P w K (.Tuple elts kk tpos) (ItzM K a b) [z, TI, TO, i1, i2] z (StM z TI TO i1 i2 a b) where
  mem := List.mem_cons_self
  obj := by
    intro i h st c hc
    obtain ⟨hz, hTI, ⟨x, y, hTO⟩, ⟨o1, e1, _, d1⟩, o2, e2, _, d2⟩ := st
    rcases five hc with rfl | rfl | rfl | rfl | rfl
    · exact ⟨_, hz, fun v q => nomatch q⟩
    · exact ⟨_, hTI, fun v q => nomatch q⟩
    · exact ⟨_, hTO, fun v q => nomatch q⟩
    · refine ⟨o1, e1, fun v q => ?_⟩
      rw [d1] at q; cases q
    · refine ⟨o2, e2, fun v q => ?_⟩
      rw [d2] at q; cases q
  keep := by
    intro i h h' st k
    obtain ⟨hz, hTI, ⟨x, y, hTO⟩, h1, h2⟩ := st
    refine ⟨k z (by simp) _ hz, k TI (by simp) _ hTI, ⟨x, y, k TO (by simp) _ hTO⟩, ?_, ?_⟩
    · exact h1.at fun o q => k i1 (by simp) o q
    · exact h2.at fun o q => k i2 (by simp) o q
  item := by
    intro X hP hw hK hc i pins s σ H E I hf st hg
    subst hP hw hK
    obtain ⟨hz, hTI, ⟨x0, y0, hTO⟩, h1, h2⟩ := st
    obtain ⟨xs, ys, x, y, hqx, hqy, hx, hy⟩ := hg
    obtain ⟨us, rv, p, _⟩ := I.list hqx
    obtain ⟨vs, rv2, p2, _⟩ := I.tuple hqy
    obtain ⟨u, hu, ru⟩ := rv.get hx
    obtain ⟨v, hv, rw2⟩ := rv2.get hy
    have zl : z < s.heap.objs.size := Heap.lt_size hz
    have hh := I.ok.hd hc
    have n1 := (List.getElem?_eq_some_iff.mp hu).1
    have n2 := (List.getElem?_eq_some_iff.mp hv).1
    refine wpAny_pyNext_zipD2_item (sepM D) (Draws.list (A := X.A.in1) hh i1 a D.l1i1 us.toArray) (Draws.tuple (A := X.A.in1) hh i2 b D.l2i2 vs.toArray)
      hz hTI hTO ⟨h1, p.isList⟩ ⟨h2, p2⟩ (by simpa using n1) (by simpa using n2) ?_
    intro x1 x2 h' tk y1 y2 z' TO' st1 st2 hT hsz hk
    have e1 : x1 = u := by
      have q : us[i]? = some x1 := by simpa using y1
      rw [hu] at q; exact (Option.some.inj q).symm
    have e2 : x2 = v := by
      have q : vs[i]? = some x2 := by simpa using y2
      rw [hv] at q; exact (Option.some.inj q).symm
    subst e1 e2
    refine ⟨_, rfl, ?_⟩
    refine wpAny_letOwnedTupleGo_zip (s := { s with heap := h', toks := tk }) z' fun h'' z'' sb => ?_
    have hT2 : h''.get? s.heap.objs.size = some { cls := .type "tuple", data := .seq #[x1, x2] } := by
      rw [sb.2 _ (Nat.ne_of_gt zl)]; exact hT
    have new : ObjOk X.prog X.w (upd H s.heap.objs.size (.tup [x, y])) h'' s.heap.objs.size (.tup [x, y]) := by
      refine ⟨by show 2 ≤ sizeLine; decide, [x1, x2], .cons ru (.cons rw2 .nil), ?_⟩
      exact ⟨_, hT2, rfl, _, rfl⟩
    have far : ∀ c o, c ∉ [z, TI, TO, i1, i2] → s.heap.get? c = some o → h''.get? c = some o := by
      intro c o hb q
      rw [sb.2 c (fun q' => hb (by simp [q']))]
      refine hk c o ?_ ?_ ?_ ?_ q
      · exact fun q' => hb (by simp [q'])
      · exact fun q' => hb (by simp [q'])
      · exact fun q' => hb (by simp [q'])
      · exact fun q' => hb (by simp [q'])
    have I1 : Inv X pins σ (upd H s.heap.objs.size (.tup [x, y])) { s with heap := h'', toks := tk } :=
      I.turnedNew (t' := tk) (ch := [z, TI, TO, i1, i2]) far hf (Nat.le_refl _) new
    refine ⟨.ref s.heap.objs.size, _, I1, rfl, ⟨_, x, y, rfl, I.hok.fresh (Nat.le_refl _), rfl, ?_, ?_⟩, ⟨z'', ?_, ⟨x1, x2, ?_⟩, ?_, ?_⟩, ?_⟩
    · intro l hl; rw [I.list_inj hl hqx]; exact hx
    · intro l hl; rw [I.tuple_inj hl hqy]; exact hy
    · rw [IsPair, sb.2 _ D.TIz]; exact hk _ _ D.TIz D.TITO D.TIi1 D.TIi2 hTI
    · exact (sb.2 _ D.TOz).trans TO'
    · exact st1.1.at fun o q => by rw [sb.2 _ D.i1z]; exact q
    · exact st2.1.at fun o q => by rw [sb.2 _ D.i2z]; exact q
    · intro c hcm
      have lt : c < s.heap.objs.size := by
        rcases five hcm with rfl | rfl | rfl | rfl | rfl
        · exact zl
        · exact Heap.lt_size hTI
        · exact Heap.lt_size hTO
        · obtain ⟨_, e, _⟩ := h1; exact Heap.lt_size e
        · obtain ⟨_, e, _⟩ := h2; exact Heap.lt_size e
      rw [upd_ne (Nat.ne_of_lt lt)]
      exact (hf c hcm).1
  done := by
    intro X hP hw hK hc i pins s σ H E I hf st hg
    subst hP hw hK
    obtain ⟨hz, hTI, ⟨x0, y0, hTO⟩, h1, h2⟩ := st
    obtain ⟨xs, ys, hqx, hqy, e1, e2, hend⟩ := hg
    obtain ⟨us, rv, p, _⟩ := I.list hqx
    obtain ⟨vs, rv2, p2, _⟩ := I.tuple hqy
    have hh := I.ok.hd hc
    have l1 := rv.length
    have l2 := rv2.length
    refine wpAny_pyNext_zipD2_end (sepM D) (Draws.list (A := X.A.in1) hh i1 a D.l1i1 us.toArray) (Draws.tuple (A := X.A.in1) hh i2 b D.l2i2 vs.toArray)
      hz hTI hTO ⟨h1, p.isList⟩ ⟨h2, p2⟩ (by simp; omega) (by simp; omega) (by simp; omega) ?_
    intro h' tk hk
    refine ⟨rfl, I.turnedL (t' := tk) (ch := [z, TI, TO, i1, i2]) ?_ hf⟩
    intro c o hb q
    refine hk c o ?_ ?_ ?_ ?_ q
    · exact fun q' => hb (by simp [q'])
    · exact fun q' => hb (by simp [q'])
    · exact fun q' => hb (by simp [q'])
    · exact fun q' => hb (by simp [q'])
  self := fun A i s Q E st h => wpAny_pyIter_zip st.1 h
/-- zip(list, tuple) -/
def iZipM (K : PySem.W.Frag) (ta : TA) : TI := fun σ H R => ta σ H fun vs H1 => ∃ a b xs ys,
  vs = [.ref a, .ref b] ∧ SqL K H1 a xs ∧ SqT K H1 b ys ∧ R (ItzM K a b) H1
theorem pi_zipM {X : Cx} {K : PySem.W.Frag} {e e2 : Expr} {ta : TA} {p pos tpos : Pos} {elts : List Expr} {kk : Nat}
    (hg : Gl X "zip") (hm : X.mg "zip" = none) (ha : PA X [e, e2] ta) (hK : X.K = K := by rfl)
    (hs : starEach [e, e2] X.env = (false, eval e X.env) :: starEach [e2] X.env := by rfl)
    (hpl : (backTo pos (starEach [e2] X.env)).any (·.1) = false := by rfl) :
    PI X (.Tuple elts kk tpos) (.Call (.Name "zip" p) [e, e2] [] pos) (iZipM K ta) := by
  subst hK
  constructor
  intro pins s σ H R I h
  refine Call_ (ld_blt I hg hm PyProof.Rows.boot_zip ?_)
  refine PyProof.Rows.callWith_type1 (thn (ha.run pos pins s σ H _ I h) ?_) hs hpl
  rintro us s1 ⟨vs, H1, I1, r1, a, b, xs, ys, rfl, hqx, hqy, q⟩
  obtain ⟨u, v, rfl, ra, rb⟩ : ∃ u v, us = [u, v] ∧ RelV (V.ref a) u ∧ RelV (V.ref b) v := by
    cases r1 with
    | cons r t =>
      cases t with
      | cons r' t' => cases t'; exact ⟨_, _, rfl, r, r'⟩
  cases ra
  cases rb
  obtain ⟨its, rv, p1, _⟩ := I1.list hqx
  obtain ⟨jts, rv2, p2, _⟩ := I1.tuple hqy
  obtain ⟨o2, ho2, _⟩ := id p2
  have la : a < s1.heap.objs.size := p1.lt
  have lb : b < s1.heap.objs.size := Heap.lt_size ho2
  refine zip_begins2 (begins_list a its.toArray) (begins_tuple b jts.toArray) p1.isList p2 ?_
  intro h' hz hTI hTO g1 g2 hsz hk
  refine wpAny_pyIter_zip hz ?_
  have I2 : Inv X pins σ H1 { s1 with heap := h' } := I1.kept (t' := s1.toks) hk
  refine ⟨s1.heap.objs.size + 4, [s1.heap.objs.size + 4, s1.heap.objs.size + 2, s1.heap.objs.size + 3, s1.heap.objs.size, s1.heap.objs.size + 1],
    _, _, H1, rfl, I2, turn_zipM (PySem.W.ktu_apart s1.heap.objs.size a b la lb), ⟨hz, hTI, ⟨_, _, hTO⟩, ⟨_, g1, rfl, rfl⟩, ⟨_, g2, rfl, rfl⟩⟩, ?_, q⟩
  intro c hcm
  have le : s1.heap.objs.size ≤ c := by
    rcases five hcm with z | z | z | z | z
    · rw [z]; exact Nat.le_add_right _ _
    · rw [z]; exact Nat.le_add_right _ _
    · rw [z]; exact Nat.le_add_right _ _
    · rw [z]; exact Nat.le_refl _
    · rw [z]; exact Nat.le_add_right _ _
  exact I1.fpOk le (I1.hok.fresh le)
end Ly

namespace Ly
open PySem PySem.Spec PyProof.Rows L2 Am
/-! how long the text of an amount is -/
theorem int_shown {i : Int} (h : i.natAbs < 2 ^ 64) : (PyData.int i).shown.length ≤ 66 ∧ (PyData.int i).showable = true := by
  have hl : i.natAbs.log2 < 65 := by
    by_cases z : i.natAbs = 0
    · rw [z]; decide
    · have := (Nat.log2_lt z).mpr h; omega
  refine ⟨?_, by rw [PyData.showable]; exact decide_eq_true (by omega)⟩
  rw [PyData.shown]
  have := int_text_length_le (a := i) (k := 65) (by decide) hl
  rw [PySem.ofString_length]; omega
theorem join_len (c : Nat) : ∀ ts : List Str, (∀ t ∈ ts, t.length ≤ c) → (Str.join ", " ts).length ≤ ts.length * (c + 2) := by
  intro ts h
  by_cases e : ts = []
  · subst e; show (0 : Nat) ≤ _; omega
  · have h1 := join_length_add ts e
    have h2 : piled ts ≤ ts.length * (c + 2) := by
      clear e h1
      induction ts with
      | nil => show (0 : Nat) ≤ _; omega
      | cons t r ih =>
        have h3 := ih fun x hx => h x (List.mem_cons_of_mem _ hx)
        have h4 := h t List.mem_cons_self
        rw [List.length_cons, Nat.add_mul, piled_cons]
        omega
    omega
theorem shownAll_map : ∀ ds : List PyData, PyData.shownAll ds = ds.map PyData.shown
  | [] => by rw [PyData.shownAll]; rfl
  | d :: r => by rw [PyData.shownAll, shownAll_map r]; rfl
theorem tup_len (c : Nat) {ds : List PyData} (h : ∀ d ∈ ds, d.shown.length ≤ c) : (PyData.tuple ds).shown.length ≤ ds.length * (c + 2) + 4 := by
  rw [PyData.shown, shownAll_map]
  have h1 := join_len c (ds.map PyData.shown) (by
    intro t ht
    obtain ⟨d, hd, rfl⟩ := List.mem_map.mp ht
    exact h d hd)
  rw [List.length_map] at h1
  unfold tupleText
  have ap : ∀ a b : Str, (a ++ b).length = a.length + b.length := fun a b => by
    show (a.cps ++ b.cps).size = a.cps.size + b.cps.size
    exact Array.size_append
  rw [ap, ap]
  have e1 : ("(" : Str).length = 1 := by rfl
  have e2 : ((if ((ds.map PyData.shown).length == 1) = true then ",)" else ")" : String) : Str).length ≤ 2 := by
    split
    · exact Nat.le_refl 2
    · show (1 : Nat) ≤ 2; omega
  rw [e1]
  omega
/-- one that can be told -/
structure Told (c : Nat) (d : PyData) : Prop where
  show_ : d.showable = true
  dict : d.hasDict = false
  len : d.shown.length ≤ c
theorem told_int {i : Int} (h : i.natAbs < 2 ^ 64) : Told 66 (.int i) := ⟨(int_shown h).2, by rw [PyData.hasDict], (int_shown h).1⟩
theorem all_show {c : Nat} : ∀ {ds : List PyData}, (∀ d ∈ ds, Told c d) → PyData.showableAll ds = true ∧ PyData.hasDictAll ds = false
  | [], _ => ⟨by rw [PyData.showableAll], by rw [PyData.hasDictAll]⟩
  | d :: r, h => by
    obtain ⟨h1, h2⟩ := all_show (ds := r) fun x hx => h x (List.mem_cons_of_mem _ hx)
    have h3 := h d List.mem_cons_self
    exact ⟨by rw [PyData.showableAll, h3.show_, h1]; rfl, by rw [PyData.hasDictAll, h3.dict, h2]; rfl⟩
theorem told_tup {c : Nat} {ds : List PyData} (h : ∀ d ∈ ds, Told c d) : Told (ds.length * (c + 2) + 4) (.tuple ds) := by
  obtain ⟨h1, h2⟩ := all_show h
  exact ⟨by rw [PyData.showable]; exact h1, by rw [PyData.hasDict]; exact h2, tup_len c fun d hd => (h d hd).len⟩
theorem Told.mono {c e : Nat} {d : PyData} (h : Told c d) (hc : c ≤ e) : Told e d := ⟨h.show_, h.dict, Nat.le_trans h.len hc⟩
theorem dep_pair (q : Int × Int) : (PyData.tuple [.int q.1, .int q.2]).depth ≤ 2 := by simp [PyData.depth, PyData.depthAll]
theorem dep_pairs : ∀ L : List (Int × Int), PyData.depthAll (L.map fun q => .tuple [.int q.1, .int q.2]) ≤ 2
  | [] => by simp [PyData.depthAll]
  | q :: r => by
    have h1 := dep_pairs r
    have h2 := dep_pair q
    rw [List.map_cons, PyData.depthAll]; omega
theorem amt_depth (d : Int) (L : List (Int × Int)) : (amtD d L).depth ≤ 4 := by
  have := dep_pairs L
  unfold amtD
  simp only [PyData.depth, PyData.depthAll]
  omega
theorem amt_told {d : Int} {L : List (Int × Int)} (hd : d.natAbs < 2 ^ 64) (hl : L.length ≤ 1001) (h : ∀ q ∈ L, q.1.natAbs < 2 ^ 64 ∧ q.2.natAbs < 2 ^ 64) : Told 300000 (amtD d L) := by
  have hp : ∀ x ∈ L.map (fun q => PyData.tuple [.int q.1, .int q.2]), Told 140 x := by
    intro x hx
    obtain ⟨q, hq, rfl⟩ := List.mem_map.mp hx
    have h1 := h q hq
    have h2 : ∀ y ∈ [PyData.int q.1, PyData.int q.2], Told 66 y := by
      intro y hy
      rcases List.mem_cons.mp hy with e | hy
      · rw [e]; exact told_int h1.1
      · rw [List.mem_singleton.mp hy]; exact told_int h1.2
    exact (told_tup h2).mono (by show 2 * 68 + 4 ≤ 140; omega)
  have hP := told_tup hp
  rw [List.length_map] at hP
  have hA : ∀ y ∈ [PyData.int d, .tuple (L.map fun q => .tuple [.int q.1, .int q.2])], Told 143000 y := by
    intro y hy
    rcases List.mem_cons.mp hy with e | hy
    · rw [e]; exact (told_int hd).mono (by omega)
    · rw [List.mem_singleton.mp hy]; exact hP.mono (by omega)
  exact (told_tup hA).mono (by show 2 * (143000 + 2) + 4 ≤ 300000; omega)
/-- repr of an amount as it stands -/
theorem AmtAt.repr {K : PySem.W.Frag} {H : Hp} {v : V} {d : Int} {L : List (Int × Int)} {Q : VK} (h : AmtAt K H v d L) (hd : d.natAbs < 2 ^ 64) (hl : L.length ≤ 1001)
    (hq : ∀ q ∈ L, q.1.natAbs < 2 ^ 64 ∧ q.2.natAbs < 2 ^ 64) (q : Q (.str (amtD d L).shown) H) : rRepr K [v] H Q := by
  have t := amt_told hd hl hq
  obtain ⟨a, b, rs, e, _⟩ := id h
  refine ⟨a, amtD d L, by rw [e], by rw [← e]; exact h.dp, t.show_, t.dict, by have := amt_depth d L; omega, by have := t.len; rw [sizeLine_eq]; omega, q⟩
end Ly

namespace Ly
open PySem PySem.Spec PyProof.Rows L2
section
variable {prog : Program} {w : World} {A : Around} {E : Value → Shared → Prop} {s : Shared}
/-! sorted of a tuple -/
theorem sorted_tupO {t : Addr} {vs : List Value} {ltv : Value → Value → Bool} {Q : Value → Shared → Prop}
    (O : SrtO.Swo ltv) (hl : IsTup s.heap t vs.toArray) (hz : vs.length ≤ sizeLine)
    (hS : 2 ≤ vs.length → ∀ (h₁ : Heap) (a : Addr), h₁.get? a = some (seqObj "list" vs.toArray 0) →
      SrtO.SortableO prog w A.in1.in1 { s with heap := h₁ } a vs ltv)
    (h : ∀ (h0 : Heap) (out : List Value), (∀ b o, s.heap.get? b = some o → h0.get? b = some o) →
      SrtO.Srtd ltv out → SrtO.Stb ltv out vs →
      Q (.ref h0.objs.size) { s with heap := sortedHeap (h0.push (seqObj "list" vs.toArray 0)) h0.objs.size vs out.toArray }) :
    wpAny (model prog w) A (call (.builtin "sorted") [.ref t]) Q E s := by
  obtain ⟨o, ho, hc, n, hd⟩ := id hl
  refine Calls.call_function_entry kind_sorted plain_sorted entry_sorted (args_sorted1 _) ?_
  unfold Builtin.«sorted»
  refine wpAny_bind (m := checkCount "sorted" 1 1 _) (wpAny_pure ?_)
  refine wpAny_bind (wpAny_collect_seq t (T := "tuple") (.inr rfl) ho hc hd ?_ (by rw [List.size_toArray]; exact hz))
  intro h0 keep
  have e0 : vs.toArray.toList = vs := by simp
  rw [e0]
  refine wpAny_bind (wpAny_newList ?_ hz)
  have hoL : (h0.push (seqObj "list" vs.toArray 0)).get? h0.objs.size = some (seqObj "list" vs.toArray 0) := Heap.get?_push_size _ rfl
  show wpAny _ _ _ _ _ { s with heap := h0.push (seqObj "list" vs.toArray 0) }
  refine wpAny_bind (wpAny_holding (wpAny_call_entry slot_list_sort ⟨_, hoL, rfl⟩ entry_list_sort ?_ (args_list_sort _)))
  refine SrtO.list_sort_ord O hoL hz (fun h2 => hS h2 _ _ hoL) fun out hs hb => ⟨_, rfl, ?_⟩
  exact wpAny_pure ⟨_, rfl, h h0 out keep hs hb⟩
end
def rSortedTI (K : PySem.W.Frag) : List V → Hp → VK → Prop := fun vs H Q => ∃ (a : Addr) (ns : List Int),
  vs = [V.ref a] ∧ SqT K H a (ns.map V.int) ∧
  ∀ (ns' : List Int) (p : Addr), ns'.Perm ns → ns'.Pairwise (· ≤ ·) → H p = none → Q (.ref p) (upd H p (.lst (ns'.map V.int)))
section
variable {X : Cx}
theorem cr_sortedTI : CallR X (.builtin "sorted") (rSortedTI X.K) := by
  intro pins s σ H vs us Q I r h
  obtain ⟨a, ns, rfl, hs, q⟩ := h
  obtain ⟨its, rv, hl, hz⟩ := I.tuple hs
  rw [Vals.ref1 r]
  have hi := rv.ints
  refine sorted_tupO SrtO.swo_int hl (by rw [← rv.length]; exact hz) (fun h2 h₁ a' _ => SrtO.ints_sortable hi h2) ?_
  intro h0 out keep h1 h2
  obtain ⟨k1, k2, k3⟩ := SrtO.ints_out hi h1 h2
  have hoL : (h0.push (seqObj "list" its.toArray 0)).get? h0.objs.size = some (seqObj "list" its.toArray 0) := Heap.get?_push_size _ rfl
  obtain ⟨ep, he'⟩ := PyProof.Rows.sortedHeap_at (vs := its) (out := out.toArray) hoL
  have hlen : ((out.map SrtO.iv).map V.int).length ≤ sizeLine := by
    rw [List.length_map, k2.length_eq]
    rw [List.length_map] at hz
    exact hz
  have I0 : Inv X pins σ H { s with heap := h0 } := I.kept (t' := s.toks) keep
  have old : ∀ b o, h0.get? b = some o → (sortedHeap (h0.push (seqObj "list" its.toArray 0)) h0.objs.size its out.toArray).get? b = some o := by
    intro b o hb
    have lt : b < h0.objs.size := Heap.lt_size hb
    rw [PyProof.Rows.sortedHeap_old (Nat.ne_of_lt lt) (by rw [size_push']; exact Nat.lt_succ_of_lt lt)]
    exact Heap.get?_push_of_some _ hb
  refine ⟨.ref _, upd H h0.objs.size (.lst ((out.map SrtO.iv).map V.int)), I0.laid (t' := s.toks) old (Nat.le_refl _) ?_, rfl, q _ _ k2 k3 (I0.hok.fresh (Nat.le_refl _))⟩
  exact ⟨hlen, out, ep, vals_of_ints k1, he'⟩
end
/-! a tuple turned about -/
theorem fm_congr {α β : Type} (f g : α → Option β) : ∀ (l : List α), (∀ x ∈ l, f x = g x) → l.filterMap f = l.filterMap g
  | [], _ => rfl
  | x :: r, h => by
    rw [List.filterMap_cons, List.filterMap_cons, h x List.mem_cons_self, fm_congr f g r fun y hy => h y (List.mem_cons_of_mem _ hy)]
section
variable {prog : Program} {w : World} {A : Around} {E : Value → Shared → Prop} {s : Shared}
theorem rev_get {t sl : Addr} {items : Array Value} {u : Tok} {Q : Value → Shared → Prop} (ht : IsTup s.heap t items)
    (hs : s.heap.IsSliceOf sl .none .none (.int (-1) u)) (hsz : items.size ≤ sizeLine)
    (h : Q (.ref s.heap.objs.size) { s with heap := s.heap.push { cls := .type "tuple", data := .seq items.toList.reverse.toArray } }) :
    wpAny (model prog w) A (getItem (.ref t) (.ref sl)) Q E s := by
  obtain ⟨os, hos, hcs, hds⟩ := id hs
  have hTs : s.TypeIs (.ref sl) "slice" := ⟨os, hos, hcs⟩
  unfold getItem
  try with_reducible refine wpAny_holding ?_
  first | refine wpAny_bind (wpAny_pure ?_) | skip
  refine wpAny_bind (wpAny_sequenceKey ht.typeIs (by decide) ?_)
  refine wpAny_bind (wpAny_callSpecial?_slot (name := Str.ofString "__getitem__") ht.typeIs PyProof.Rows.slot_tuple_getitem ?_)
  refine wpAny_call_entry PyProof.Rows.slot_tuple_getitem ht.typeIs entry_tuple_getitem ?_ (args_tuple_getitem _ _)
  show wpAny _ _ (Builtin.Tuple.tupleItemsOf (.ref t) >>= _) _ _ s
  refine wpAny_bind (tupleItemsOf_ ht ?_)
  refine wpAny_bind (wpAny_typeOf hTs ?_)
  rw [if_pos (by decide)]
  refine wpAny_bind ?_
  unfold Builtin.Slice.sliceApplied Builtin.Slice.sliceFields
  refine wpAny_bind (wpAny_bind (wpAny_field hos hds (x := .none) rfl (wpAny_bind (wpAny_field hos hds (x := .none) rfl (wpAny_bind (wpAny_field hos hds (x := .int (-1) u) rfl (wpAny_pure ?_)))))))
  refine wpAny_bind (PyProof.Rows.slicePart_int ?_)
  show wpAny _ _ (if ((-1 : Int) == 0) = true then _ else _) _ _ s
  rw [if_neg (by decide)]
  refine wpAny_bind (PyProof.Rows.slicePart_none (wpAny_bind (PyProof.Rows.slicePart_none (wpAny_bind (wpAny_pure ?_)))))
  have adj : Builtin.Slice.sliceAdjust none none (-1) (items.size : Int) = ((items.size : Int) - 1, -1) := by
    unfold Builtin.Slice.sliceAdjust
    rfl
  have plc : Builtin.Slice.slicePlaces ((items.size : Int) - 1) (-1) (-1) = items.size := by
    unfold Builtin.Slice.slicePlaces
    rw [if_neg (by decide)]
    by_cases z : (items.size : Int) - 1 > -1
    · rw [if_pos z, show ((items.size : Int) - 1 - -1 - 1) = (items.size : Int) - 1 by omega, show (-(-1) : Int) = 1 by rfl, Int.ediv_one]; omega
    · rw [if_neg z]; omega
  show wpAny _ _ (match Builtin.Slice.sliceAdjust none none (-1) (items.size : Int) with
    | (lo, hi) => pure (lo, (-1 : Int), Builtin.Slice.slicePlaces lo hi (-1))) _ _ s
  rw [adj]
  show wpAny _ _ (pure ((items.size : Int) - 1, (-1 : Int), Builtin.Slice.slicePlaces ((items.size : Int) - 1) (-1) (-1))) _ _ s
  rw [plc]
  refine wpAny_pure ?_
  have no : ¬ ((((items.size : Int) - 1 == 0) && ((-1 : Int) == 1) && (items.size == items.size)) = true) := by
    rw [show ((-1 : Int) == 1) = false by rfl, Bool.and_false, Bool.false_and]; exact Bool.false_ne_true
  have pick : ((List.range items.size).filterMap fun (k : Nat) => items[((items.size : Int) - 1 + (k : Int) * -1).toNat]?) = items.toList.reverse := by
    have e1 : ((List.range items.size).filterMap fun (k : Nat) => items[((items.size : Int) - 1 + (k : Int) * -1).toNat]?) =
        ((List.range items.size).map fun k => items.size - 1 - k).filterMap fun i => items[i]? := by
      rw [List.filterMap_map]
      refine fm_congr _ _ _ fun k hk => ?_
      have := List.mem_range.mp hk
      show items[((items.size : Int) - 1 + (k : Int) * -1).toNat]? = items[items.size - 1 - k]?
      congr 1
      omega
    have e2 : ((List.range items.size).map fun k => items.size - 1 - k) = (List.range items.size).reverse := by
      apply List.ext_getElem
      · simp
      · intro i h1 h2; simp
    have e3 : (List.range items.size).filterMap (fun i => items[i]?) = items.toList := by
      have g : ∀ l : List Value, (List.range l.length).filterMap (fun i => l[i]?) = l := by
        intro l
        induction l with
        | nil => rfl
        | cons x r ih =>
          rw [List.length_cons, List.range_succ_eq_map, List.filterMap_cons]
          simp only [List.getElem?_cons_zero]
          rw [List.filterMap_map]
          congr 1
      have := g items.toList
      simpa using this
    rw [e1, e2, List.filterMap_reverse, e3]
  show wpAny _ _ (if (((items.size : Int) - 1 == 0) && ((-1 : Int) == 1) && (items.size == items.size)) = true then _ else _) _ _ s
  rw [if_neg no, pick]
  refine wpAny_bind (m := Builtin.Tuple.tupleExact _) (wpAny_newObj_type (wpAny_pure ⟨_, rfl, wpAny_pure h⟩) ?_)
  show items.toList.reverse.toArray.size ≤ sizeLine
  rw [List.size_toArray, List.length_reverse, Array.length_toList]; exact hsz
end
def tRevT (K : PySem.W.Frag) (te : TE) : TE := fun σ H Q => te σ H fun x H1 => ∃ a xs,
  x = .ref a ∧ SqT K H1 a xs ∧ ∀ p, H1 p = none → Q (.ref p) (upd H1 p (.tup xs.reverse))
theorem pe_revT {X : Cx} {e : Expr} {te : TE} {k : Nat} {p1 p2 p3 pos : Pos} (he : PE X e te) :
    PE X (.Subscript e (.Slice none none (some (.UnaryOp .USub (.Constant (.int 1) k p1) p2)) p3) pos) (tRevT X.K te) := by
  constructor
  intro pins s σ H Q I h
  refine Subscript_ (thn (he.run pins s σ H _ I h) ?_)
  rintro v s1 ⟨x, H1, I1, r1, a, xs, rfl, hx, q⟩
  cases r1
  have hst : PO X (some (.UnaryOp .USub (.Constant (.int 1) k p1) p2)) (tPart (tUn (rU fun i => .int (-i)) (tC (.int 1)))) :=
    po_some (pe_un un_neg pe_int)
  refine wpAny_Slice (thn (po_none.run pins s1 σ H1 (fun o H2 => o = none ∧ H2 = H1) I1 ⟨rfl, rfl⟩) ?_)
  rintro vl s2 ⟨l, H2, I2, pl, rfl, rfl⟩
  refine thn (po_none.run pins s2 σ H2 (fun o H3 => o = none ∧ H3 = H2) I2 ⟨rfl, rfl⟩) ?_
  rintro vu s3 ⟨u, H3, I3, pu, rfl, rfl⟩
  refine thn (hst.run pins s3 σ H3 (fun o H4 => o = some (-1) ∧ H4 = H3) I3 ⟨1, rfl, -1, rfl, rfl, rfl⟩) ?_
  rintro vs s4 ⟨o, H4, I4, ps, rfl, rfl⟩
  have I5 : Inv X pins σ H4 { s4 with heap := s4.heap.push { cls := .type "slice", data := .fields #[vl, vu, vs] } } :=
    I4.kept (t' := s4.toks) fun b ob q => Heap.get?_push_of_some _ q
  obtain ⟨its, r, ht, hz⟩ := I5.tuple hx
  have hlen := r.length
  cases pl
  cases pu
  cases ps
  rename_i t4
  show wpAny (model X.prog X.w) X.A (subscriptTail e _ (.ref a) (.ref s4.heap.objs.size)) (EP X pins σ Q) X.xe _
  refine tail_any (ops := [.ref a, .ref s4.heap.objs.size]) ht.typeIs PyProof.Rows.slot_tuple_getitem.lookup ?_ (by with_unfolding_all rfl)
  refine rev_get ht (Heap.IsSliceOf.new _ _ _ _) (by rw [List.size_toArray]; omega) ?_
  have e9 : its.toArray.toList = its := by simp
  rw [e9]
  refine ⟨.ref _, _, I5.laid (t' := s4.toks) (o := .tup xs.reverse) (fun b ob q => Heap.get?_push_of_some _ q) (Nat.le_refl _) ?_, rfl, q _ (I5.hok.fresh (Nat.le_refl _))⟩
  exact ⟨by rw [List.length_reverse]; exact hz, its.reverse, r.reverse, IsTup.new _ _⟩
/-! f(k = v) -/
section
variable {X : Cx} {k j : Nat} {st : Stmt} {ps ks : List Str} {sp : Sp} {x : Str} {p pos : Pos} {tk : TA} {kws : List Keyword}
theorem pe_caK (ks : List Str) (c : Ca X.prog X.w X.K X.mg X.base k x st ps sp) (hr : Room j X.A) (hkw : PK X kws tk)
    (hb : ∀ (kV doc pm : Value) (an : Option Addr) (cdv ct : Value) (us ws : List Value), (us ++ ws).length = ps.length →
      bindArgs (PySem.W.fnOf x x (defArgs st) (defBody st) (defScope st) .none kV doc pm an cdv ct) ⟨us, ks.zip ws⟩ = pure (ps.zip (us ++ ws)))
    (hg : Gl X x := by rfl) (hj : k ≤ j := by decide)
    (hall : (backToKw pos (keywordEach kws X.env)).all (·.1.isSome) = true := by rfl)
    (hks : (backToKw pos (keywordEach kws X.env)).filterMap (·.1) = ks := by rfl)
    (hdb : (x == ("__debug__" : Str)) = false := by decide)
    (hpl : ((backTo pos (starEach [] X.env)).any (·.1) || (backToKw pos (keywordEach kws X.env)).any (·.1.isNone)) = false := by rfl) :
    PE X (.Call (.Name x p) [] kws pos) (fun σ H Q => tk σ H fun zs H2 => sp zs H2 Q E0) := by
  obtain ⟨f, fd, F, D, B, g⟩ := c.ex
  have kb : KBinds X.K fd ps ks (fun us ws => us ++ ws) (fun vs zs => vs ++ zs) := by
    obtain ⟨oc, od, dV, kV, doc, pm, an, cdv, ct, osl, rfl, lk, hcd, hD, hK⟩ := D.ex
    rcases hD with ⟨_, rfl⟩ | ⟨e, _⟩
    · exact ⟨fun s us ws _ hl => .of_eq (hb kV doc pm an cdv ct us ws hl), fun r1 r2 => r1.append r2⟩
    · exact absurd rfl e
  exact pe_callK0 (gV := fun vs zs => vs ++ zs) F (hr.mono hj) hg g D.kp kb pass0 hkw hall hks hdb hpl
end
end Ly

/-! set(xs) of a list of ints that sorted(..) then walks -/
namespace Ly
open PySem PySem.Spec PyProof.Rows L2
section
variable {P : Program} {w : World} {A : Around} {E : Value → Shared → Prop} {s : Shared}
/-- what set(..) starts from -/
abbrev nulS (w : World) : Obj := { cls := .type "set", dict := none, data := .set #[] 0 (.fresh 0 0 (!w.params.followText "set-order")) }
/-- what the machine holds once the new set is filled -/
def FilledS (w : World) (s : Shared) (ns : List Int) (t : Shared) : Prop :=
  ∃ hp tk c, t = { s with heap := hp, toks := tk } ∧ SetR w hp s.heap.objs.size (fun j => decide (j ∈ ns)) c ∧ c ≤ ns.length ∧ ∀ b o, s.heap.get? b = some o → hp.get? b = some o
theorem setL_call {l : Addr} {items : Array Value} (ns : List Int) {Q : Value → Shared → Prop} (hh : A.handled = none) (hl : s.heap.IsList l items) (hit : IntsAre items.toList ns) (hb : ns.length + 1 < scanBound)
    (h : ∀ t, FilledS w s ns t → Q (.ref s.heap.objs.size) t) : wpAny (model P w) A (call (.type "set") [.ref l]) Q E s := by
  have len : items.size = ns.length := by
    have := IntsAre.length hit
    rwa [Array.length_toList] at this
  have k1 := F.called_set.notType
  have k2 := F.called_set.canCreate
  have k3 := F.typeCall_set_1 (.ref l)
  have k4 := F.called_set.made
  have k5 := F.called_set.sub
  obtain ⟨c, tl, k6⟩ := F.called_set.mro
  refine wpAny_call (codeAny_of_tree ?_)
  show wpAny _ _ (callAny (.type "set") _) _ _ _
  refine wpAny_pure ⟨Code.quiet_builtin _ (by decide +kernel), codeAny_builtin F.entry_type_call ?_⟩
  rw [Around.under_plain (weight_type_call_type "set" [.ref l] []) rfl]
  repeat (any_goals (first | assumption | wp_step))
  refine codeAny_mono (code_set_led1 (.ref l) (E := E) (Q₁ := fun x t => x = .ref s.heap.objs.size ∧ t = { s with heap := s.heap.push (nulS w) }) ⟨rfl, rfl⟩) fun r t hr => ?_
  cases r with
  | error e => exact hr
  | ok fl =>
    cases fl with
    | ret x =>
      obtain ⟨rfl, rfl⟩ := hr
      have self : (s.heap.push (nulS w)).get? s.heap.objs.size = some (nulS w) := Heap.get?_push_size _ rfl
      have ty : Shared.TypeIs { s with heap := s.heap.push (nulS w) } (.ref s.heap.objs.size) "set" := ⟨_, self, rfl⟩
      have k7 := F.called_set.init.lookup
      have k8 := F.called_set.init.bind (.ref s.heap.objs.size)
      repeat (any_goals (first | assumption | wp_step))
      refine codeAny_mono (codeAny_call_builtin (R := wants (fun r t => r = .none ∧ FilledS w s ns t) E) F.called_set.init.plain F.entry_set_init (check_set_init_1 ty ?_)) fun r2 t2 hr2 => ?_
      · obtain ⟨⟨oc, od, dat, os⟩, ho, hc, nl, hd⟩ := hl
        simp only at hc hd
        subst hc; subst hd
        have there : (s.heap.push (nulS w)).get? l = some { cls := .type "list", dict := od, data := .seq items nl, slots := os } := Heap.get?_push_of_some _ ho
        have lst : (s.heap.push (nulS w)).IsList l items := ⟨_, there, rfl, nl, rfl⟩
        have n1 := F.sub_list_set
        have n2 := F.sub_list_frozenset
        have n3 : (Value.type "list" == Value.type "dict") = false := by decide
        have lS : l < s.heap.objs.size := Heap.lt_size ho
        have sz : (s.heap.push (nulS w)).objs.size = s.heap.objs.size + 1 := Heap.size_push ..
        unfold Builtin.«set.__init__» noKeywords Builtin.Frozenset.updateFrom
        generalize hPI : pyIter = PI
        wp_walk
        subst hPI
        refine wpAny_pyIter_list lst (wpAny_bind (wpAny_runValue ?_))
        have h3 : A.in1.in1.in1.handled = none := by simp [hh]
        have apart : s.heap.objs.size ∉ [(s.heap.push (nulS w)).objs.size, l] := fun z => by
          rw [sz] at z
          rcases List.mem_cons.mp z with e | z
          · exact absurd e (Nat.ne_of_lt (Nat.lt_succ_self _))
          · exact Nat.ne_of_gt lS (List.mem_singleton.mp z)
        have val : ∀ (i : Nat) (v : Value), items[i]? = some v → ∃ k t, ns[i]? = some k ∧ v = .int k t := fun i v hv => by
          have hi : i < ns.length := by rw [← len]; exact (Array.getElem?_eq_some_iff.mp hv).1
          obtain ⟨t, e⟩ := PyProof.Rows.IntsAre.int_at hit i v (by rw [Array.getElem?_toList]; exact hv)
          exact ⟨ns[i], t, List.getElem?_eq_getElem hi, by rw [e, List.getD_eq_getElem?_getD, List.getElem?_eq_getElem hi]; rfl⟩
        refine set_update_ints ((Walks.list h3 _ l (by rw [sz]; exact Nat.ne_of_lt (Nat.lt_succ_of_lt lS)) items).toS) s.heap.objs.size apart ns len hb val (items.size - 0) 0 _ (by omega) (Nat.zero_le _) ⟨⟨_, Heap.get?_push_size _ rfl, rfl, rfl⟩, (lst.push _)⟩ ⟨0, Nat.le_refl 0, setR_new_at (Heap.get?_push_of_some _ self)⟩ ?_
        intro t c mv hc' hS
        obtain ⟨hp, gg, dd, tk, oo⟩ := t
        have e1 : gg = s.gens := mv.gens
        have e2 : dd = s.drawn := mv.drawn
        have e3 : oo = s.os := mv.os
        subst e1; subst e2; subst e3
        show wpAny _ _ _ _ _ _
        refine wpAny_pure ?_
        show wpAny _ _ (ret Value.none) _ _ _
        rw [len] at hc'
        refine wpAny_pure ⟨rfl, hp, tk, c, rfl, hS, hc', fun b o e => ?_⟩
        have bl : b < s.heap.objs.size := Heap.lt_size e
        refine mv.heap b o (fun z => ?_) (Heap.get?_push_of_some _ (Heap.get?_push_of_some _ e))
        rcases List.mem_cons.mp z with e | z
        · exact Nat.ne_of_lt bl e
        · have := List.mem_singleton.mp z
          rw [sz] at this
          exact Nat.ne_of_lt (Nat.lt_succ_of_lt bl) this
      · cases r2 with
        | error e => exact hr2
        | ok f2 =>
          cases f2 with
          | ret r =>
            obtain ⟨rfl, hF⟩ := hr2
            have hQ := h _ hF
            repeat (any_goals (first | assumption | wp_step))
          | _ => exact hr2.elim
    | _ => exact hr.elim
end
section
variable {X : Cx}
def rSetL (K : PySem.W.Frag) (w : World) : List V → Hp → VK → Prop := fun xs H Q => ∃ (l : Addr) (ns : List Int), xs = [V.ref l] ∧ SqL K H l (ns.map V.int) ∧ ns.length ≤ 1000 ∧
  ∀ a c H', Same H H' → H' a = some (SetO w a (fun j => decide (j ∈ ns)) c) → c ≤ ns.length → Q (.ref a) H'
theorem cr_setL (hc : X.calm = true) : CallR X (.type "set") (rSetL X.K X.w) := by
  intro pins s σ H xs us Q I r h
  obtain ⟨l, ns, rfl, hS, hl, q⟩ := h
  rw [Vals.ref1 r]
  obtain ⟨its, rv, pl, hz⟩ := I.list hS
  refine setL_call ns (I.ok.hd hc) pl.isList (by simpa using ints_of_vals rv) (by unfold scanBound; omega) ?_
  rintro t ⟨hp, tk, c, rfl, R, cl, k⟩
  exact ⟨.ref _, upd H s.heap.objs.size (SetO X.w s.heap.objs.size (fun j => decide (j ∈ ns)) c), I.laid (t' := tk) k (Nat.le_refl _) (setO_new R), rfl, q _ c _ (same_new (I.hok.fresh (Nat.le_refl _))) upd_same cl⟩
end
end Ly

/-! calls by name alone, in the reverse order of the parameters; repr of what is made of ints, bools and amounts -/
namespace Ly
open PySem PySem.Spec PyProof.Rows L2
def gR {α : Type} : List α → List α → List α
  | [], ws => ws.reverse
  | _ :: _, _ => []
section
variable {X : Cx} {k j : Nat} {st : Stmt} {ps ks : List Str} {sp : Sp} {x : Str} {p pos : Pos} {tk : TA} {kws : List Keyword}
theorem pe_caKr (ks : List Str) (c : Ca X.prog X.w X.K X.mg X.base k x st ps sp) (hr : Room j X.A) (hkw : PK X kws tk)
    (hb : ∀ (kV doc pm : Value) (an : Option Addr) (cdv ct : Value) (ws : List Value), ws.length = ps.length →
      bindArgs (PySem.W.fnOf x x (defArgs st) (defBody st) (defScope st) .none kV doc pm an cdv ct) ⟨[], ks.zip ws⟩ = pure (ps.zip ws.reverse))
    (hp : 0 < ps.length := by decide) (hg : Gl X x := by rfl) (hj : k ≤ j := by decide)
    (hall : (backToKw pos (keywordEach kws X.env)).all (·.1.isSome) = true := by rfl)
    (hks : (backToKw pos (keywordEach kws X.env)).filterMap (·.1) = ks := by rfl)
    (hdb : (x == ("__debug__" : Str)) = false := by decide)
    (hpl : ((backTo pos (starEach [] X.env)).any (·.1) || (backToKw pos (keywordEach kws X.env)).any (·.1.isNone)) = false := by rfl) :
    PE X (.Call (.Name x p) [] kws pos) (fun σ H Q => tk σ H fun zs H2 => sp zs.reverse H2 Q E0) := by
  obtain ⟨f, fd, F, D, B, g⟩ := c.ex
  have kb : KBinds X.K fd ps ks gR gR := by
    obtain ⟨oc, od, dV, kV, doc, pm, an, cdv, ct, osl, rfl, lk, hcd, hD, hK⟩ := D.ex
    rcases hD with ⟨_, rfl⟩ | ⟨e, _⟩
    · refine ⟨fun s us ws _ hl => ?_, fun {vs us zs ws} r1 r2 => ?_⟩
      · cases us with
        | nil => exact .of_eq (hb kV doc pm an cdv ct ws (by rw [← hl]; exact (List.length_reverse).symm))
        | cons u r => exact absurd hl (by show 0 ≠ _; omega)
      · cases r1 with
        | nil => exact r2.reverse
        | cons a b => exact .nil
    · exact absurd rfl e
  exact pe_callK0 (gV := gR) F (hr.mono hj) hg g D.kp kb pass0 hkw hall hks hdb hpl
end
/-- what repr tells of a tuple of data that is told short -/
theorem tup_rp {K : PySem.W.Frag} {H : Hp} {p : Addr} {xs : List V} {ds : List PyData} {c : Nat} (hp : SqT K H p xs) (h : DpAll K H xs ds) (t : ∀ d ∈ ds, Told c d) (dep : ∀ d ∈ ds, d.depth ≤ 40)
    (len : ds.length * (c + 2) + 4 ≤ 16000000) :
    Dp K H (.ref p) (.tuple ds) ∧ (PyData.tuple ds).showable = true ∧ (PyData.tuple ds).hasDict = false ∧ (PyData.tuple ds).depth ≤ 60 ∧ (PyData.tuple ds).shown.length ≤ sizeLine := by
  have tt := told_tup t
  refine ⟨.tup hp h, tt.show_, tt.dict, ?_, by have := tt.len; rw [sizeLine_eq]; omega⟩
  have : ∀ ds : List PyData, (∀ d ∈ ds, d.depth ≤ 40) → PyData.depthAll ds ≤ 40 := by
    intro ds
    induction ds with
    | nil => intro _; exact Nat.zero_le _
    | cons d r ih =>
      intro hd
      have h1 := hd d List.mem_cons_self
      have h2 := ih fun x hx => hd x (List.mem_cons_of_mem _ hx)
      simp only [PyData.depthAll]; omega
  have := this ds dep
  simp only [PyData.depth]; omega
theorem told_bool (b : Bool) : Told 66 (.bool b) := by
  refine ⟨?_, ?_, ?_⟩
  · cases b <;> rfl
  · cases b <;> rfl
  · cases b <;> decide +kernel
end Ly

/-! repr of ints and tuples tells unlike values apart -/
namespace Ly
open PySem PySem.Spec PyProof.Rows L2 TL
/-- the signs of what repr tells -/
def sh (d : PyData) : List Nat := tl d.shown
theorem tl_ofS (s : String) : tl (Str.ofString s) = s.toList.map Char.toNat := by
  rw [Str.ofString_eq_toList]
theorem sh_nat (n : Nat) : sh (.int (n : Int)) = numL n := tl_num n
theorem sh_neg (n : Nat) : sh (.int (Int.negSucc n)) = 45 :: numL (n + 1) := by
  have h := tl_num (n + 1)
  show tl (Str.ofString (toString (Int.negSucc n))) = _
  have e : toString (Int.negSucc n) = "-" ++ toString (((n + 1 : Nat)) : Int) := by rfl
  rw [e, ← h, tl_ofS, tl_ofS, String.toList_append, List.map_append]
  rfl
/-- what may follow an int: nothing, or a sign that is no digit -/
def nd (s : List Nat) : Prop := ∀ c r, s = c :: r → c < 48 ∨ 57 < c
theorem dig_split : ∀ {a b s t : List Nat}, (∀ c ∈ a, 48 ≤ c ∧ c ≤ 57) → (∀ c ∈ b, 48 ≤ c ∧ c ≤ 57) → nd s → nd t → a ++ s = b ++ t → a = b ∧ s = t
  | [], [], _, _, _, _, _, _, h => ⟨rfl, h⟩
  | [], c :: r, s, t, _, hb, hs, _, h => by
    have := hs c (r ++ t) h
    have := hb c List.mem_cons_self
    omega
  | c :: r, [], s, t, ha, _, _, ht, h => by
    have := ht c (r ++ s) h.symm
    have := ha c List.mem_cons_self
    omega
  | c :: r, c2 :: r2, s, t, ha, hb, hs, ht, h => by
    rw [List.cons_append, List.cons_append] at h
    obtain ⟨h1, h2⟩ := List.cons.inj h
    obtain ⟨g1, g2⟩ := dig_split (fun x hx => ha x (List.mem_cons_of_mem _ hx)) (fun x hx => hb x (List.mem_cons_of_mem _ hx)) hs ht h2
    exact ⟨by rw [h1, g1], g2⟩
/-- unlike values of this kind are told by unlike signs, whatever follows -/
def Pf (S : PyData → Prop) : Prop := ∀ x y, S x → S y → ∀ s t, nd s → nd t → sh x ++ s = sh y ++ t → x = y ∧ s = t
theorem num_head {n : Nat} : ∃ c r, numL n = c :: r ∧ 48 ≤ c ∧ c ≤ 57 := by
  cases e : numL n with
  | nil => exact absurd e (numL_ne n)
  | cons c r => exact ⟨c, r, rfl, numL_digits n c (by rw [e]; exact List.mem_cons_self)⟩
theorem pf_int : Pf (fun d => ∃ i, d = .int i) := by
  rintro _ _ ⟨i, rfl⟩ ⟨j, rfl⟩ s t hs ht h
  cases i with
  | ofNat n =>
    cases j with
    | ofNat m =>
      rw [Int.ofNat_eq_natCast, Int.ofNat_eq_natCast, sh_nat, sh_nat] at h
      obtain ⟨g1, g2⟩ := dig_split (numL_digits n) (numL_digits m) hs ht h
      rw [numL_inj g1]; exact ⟨rfl, g2⟩
    | negSucc m =>
      rw [Int.ofNat_eq_natCast, sh_nat, sh_neg] at h
      obtain ⟨c, r, e, c1, c2⟩ := num_head (n := n)
      rw [e, List.cons_append, List.cons_append] at h
      have := (List.cons.inj h).1
      omega
  | negSucc n =>
    cases j with
    | ofNat m =>
      rw [Int.ofNat_eq_natCast, sh_nat, sh_neg] at h
      obtain ⟨c, r, e, c1, c2⟩ := num_head (n := m)
      rw [e, List.cons_append, List.cons_append] at h
      have := (List.cons.inj h).1
      omega
    | negSucc m =>
      rw [sh_neg, sh_neg, List.cons_append, List.cons_append] at h
      obtain ⟨g1, g2⟩ := dig_split (numL_digits (n + 1)) (numL_digits (m + 1)) hs ht (List.cons.inj h).2
      have := numL_inj g1
      have e : n = m := by omega
      rw [e]; exact ⟨rfl, g2⟩
/-- what stands behind the first item of a tuple -/
def tlT (xs : List PyData) (f : List Nat) : List Nat := (xs.map fun x => 44 :: 32 :: sh x).flatten ++ f
theorem tlT_nd {xs : List PyData} {f s : List Nat} (hf : f = [41] ∨ f = [44, 41]) : nd (tlT xs f ++ s) := by
  intro c r e
  cases xs with
  | nil =>
    rcases hf with h | h <;> (rw [h] at e; have := (List.cons.inj e).1; omega)
  | cons x xs => have := (List.cons.inj e).1; omega
theorem tlT_split {S : PyData → Prop} (P : Pf S) {f g : List Nat} (hf : f = [41] ∨ f = [44, 41]) (hg : g = [41] ∨ g = [44, 41]) {s t : List Nat} :
    ∀ {xs ys : List PyData}, (∀ x ∈ xs, S x) → (∀ y ∈ ys, S y) → tlT xs f ++ s = tlT ys g ++ t → xs = ys ∧ s = t
  | [], [], _, _, h => by
    refine ⟨rfl, ?_⟩
    rcases hf with rfl | rfl <;> rcases hg with rfl | rfl
    · exact (List.cons.inj h).2
    · exact absurd (List.cons.inj h).1 (by omega)
    · exact absurd (List.cons.inj h).1 (by omega)
    · exact (List.cons.inj (List.cons.inj h).2).2
  | [], y :: ys, _, _, h => by
    rcases hf with rfl | rfl
    · exact absurd (List.cons.inj h).1 (by omega)
    · exact absurd (List.cons.inj (List.cons.inj h).2).1 (by omega)
  | x :: xs, [], _, _, h => by
    rcases hg with rfl | rfl
    · exact absurd (List.cons.inj h).1 (by omega)
    · exact absurd (List.cons.inj (List.cons.inj h).2).1 (by omega)
  | x :: xs, y :: ys, hx, hy, h => by
    have e : ∀ (x : PyData) (xs : List PyData) (f s : List Nat), tlT (x :: xs) f ++ s = 44 :: 32 :: (sh x ++ (tlT xs f ++ s)) := fun x xs f s => by
      unfold tlT; simp
    rw [e, e] at h
    obtain ⟨g1, g2⟩ := P x y (hx x List.mem_cons_self) (hy y List.mem_cons_self) _ _ (tlT_nd hf) (tlT_nd hg) (List.cons.inj (List.cons.inj h).2).2
    obtain ⟨g3, g4⟩ := tlT_split P hf hg (fun z hz => hx z (List.mem_cons_of_mem _ hz)) (fun z hz => hy z (List.mem_cons_of_mem _ hz)) g2
    exact ⟨by rw [g1, g3], g4⟩
theorem join_tail : ∀ (x : PyData) (xs : List PyData), joinL [44, 32] ((x :: xs).map sh) = sh x ++ (xs.map fun x => 44 :: 32 :: sh x).flatten
  | x, [] => by simp [joinL]
  | x, y :: r => by
    show sh x ++ ([44, 32] ++ joinL [44, 32] ((y :: r).map sh)) = _
    rw [join_tail y r]; simp
theorem sh_tup (ds : List PyData) : sh (.tuple ds) = 40 :: (joinL [44, 32] (ds.map sh) ++ if ds.length = 1 then [44, 41] else [41]) := by
  unfold sh
  rw [PyData.shown, shownAll_map]
  unfold tupleText
  rw [tl_append, tl_append, tl_join, List.map_map, List.length_map]
  have e1 : tl ("(" : Str) = [40] := by rfl
  have e2 : tl (", " : Str) = [44, 32] := by rfl
  rw [e1, e2, List.append_assoc]
  show 40 :: (joinL [44, 32] (ds.map sh) ++ _) = _
  congr 2
  by_cases c : ds.length = 1
  · rw [if_pos c, if_pos (by rw [c]; rfl)]; rfl
  · rw [if_neg c, if_neg (by simpa using c)]; rfl
theorem pf_tup {S : PyData → Prop} (P : Pf S) (h41 : ∀ x, S x → ∀ r, sh x ≠ 41 :: r) (hne : ∀ x, S x → sh x ≠ []) : Pf (fun d => ∃ ds, d = .tuple ds ∧ ∀ x ∈ ds, S x) := by
  rintro _ _ ⟨xs, rfl, hx⟩ ⟨ys, rfl, hy⟩ s t hs ht h
  rw [sh_tup, sh_tup, List.cons_append, List.cons_append] at h
  have h2 := (List.cons.inj h).2
  have first : ∀ (y : PyData) (w : List Nat) (s : List Nat), S y → [41] ++ s ≠ sh y ++ w := fun y w s sy e => by
    cases e2 : sh y with
    | nil => exact hne y sy e2
    | cons c r =>
      rw [e2] at e
      have := (List.cons.inj e).1
      exact h41 y sy r (by rw [e2, ← this])
  have ff : ∀ n : Nat, (if n = 1 then [44, 41] else [41]) = [41] ∨ (if n = 1 then [44, 41] else [41]) = ([44, 41] : List Nat) := fun n => by
    by_cases c : n = 1
    · rw [if_pos c]; exact .inr rfl
    · rw [if_neg c]; exact .inl rfl
  cases xs with
  | nil =>
    cases ys with
    | nil => exact ⟨rfl, (List.cons.inj h2).2⟩
    | cons y ys =>
      rw [join_tail] at h2
      have h3 : [41] ++ s = sh y ++ (((ys.map fun x => 44 :: 32 :: sh x).flatten ++ (if (y :: ys).length = 1 then [44, 41] else [41])) ++ t) := by
        rw [← List.append_assoc, ← List.append_assoc]; exact h2
      exact absurd h3 (first y _ s (hy y List.mem_cons_self))
  | cons x xs =>
    cases ys with
    | nil =>
      rw [join_tail] at h2
      have h3 : [41] ++ t = sh x ++ (((xs.map fun x => 44 :: 32 :: sh x).flatten ++ (if (x :: xs).length = 1 then [44, 41] else [41])) ++ s) := by
        rw [← List.append_assoc, ← List.append_assoc]; exact h2.symm
      exact absurd h3 (first x _ t (hx x List.mem_cons_self))
    | cons y ys =>
      rw [join_tail, join_tail, List.append_assoc, List.append_assoc, List.append_assoc, List.append_assoc] at h2
      have e : ∀ (xs : List PyData) (f s : List Nat), (xs.map fun x => 44 :: 32 :: sh x).flatten ++ (f ++ s) = tlT xs f ++ s := fun xs f s => by
        unfold tlT; rw [List.append_assoc]
      rw [e, e] at h2
      obtain ⟨g1, g2⟩ := P x y (hx x List.mem_cons_self) (hy y List.mem_cons_self) _ _ (tlT_nd (ff _)) (tlT_nd (ff _)) h2
      obtain ⟨g3, g4⟩ := tlT_split P (ff _) (ff _) (fun z hz => hx z (List.mem_cons_of_mem _ hz)) (fun z hz => hy z (List.mem_cons_of_mem _ hz)) g2
      exact ⟨by rw [g1, g3], g4⟩
theorem nd_nil : nd [] := fun _ _ h => nomatch h
theorem pf_inj {S : PyData → Prop} (P : Pf S) {x y : PyData} (hx : S x) (hy : S y) (h : x.shown = y.shown) : x = y :=
  (P x y hx hy [] [] nd_nil nd_nil (by unfold sh; rw [h])).1
theorem sh_hd_tup (ds : List PyData) : (∀ r, sh (.tuple ds) ≠ 41 :: r) ∧ sh (.tuple ds) ≠ [] := by
  rw [sh_tup]
  exact ⟨fun r h => absurd (List.cons.inj h).1 (by omega), fun h => nomatch h⟩
theorem sh_hd_int (i : Int) : (∀ r, sh (.int i) ≠ 41 :: r) ∧ sh (.int i) ≠ [] := by
  cases i with
  | ofNat n =>
    obtain ⟨c, r, e, c1, c2⟩ := num_head (n := n)
    rw [Int.ofNat_eq_natCast, sh_nat, e]
    exact ⟨fun r h => by have := (List.cons.inj h).1; omega, fun h => nomatch h⟩
  | negSucc n =>
    rw [sh_neg]
    exact ⟨fun r h => absurd (List.cons.inj h).1 (by omega), fun h => nomatch h⟩
/-- ints, and tuples of what S has -/
theorem pf_or {S : PyData → Prop} (P : Pf S) (h41 : ∀ x, S x → ∀ r, sh x ≠ 41 :: r) (hne : ∀ x, S x → sh x ≠ []) : Pf (fun d => (∃ i, d = .int i) ∨ ∃ ds, d = .tuple ds ∧ ∀ x ∈ ds, S x) := by
  have it : ∀ (i : Int) (ds : List PyData) (s t : List Nat), sh (.int i) ++ s ≠ sh (.tuple ds) ++ t := fun i ds s t h => by
    rw [sh_tup, List.cons_append] at h
    cases i with
    | ofNat n =>
      obtain ⟨c, r, e, c1, c2⟩ := num_head (n := n)
      rw [Int.ofNat_eq_natCast, sh_nat, e, List.cons_append] at h
      have := (List.cons.inj h).1; omega
    | negSucc n =>
      rw [sh_neg, List.cons_append] at h
      have := (List.cons.inj h).1; omega
  rintro x y (hx | hx) (hy | hy) s t hs ht h
  · exact pf_int x y hx hy s t hs ht h
  · obtain ⟨i, rfl⟩ := hx
    obtain ⟨ds, rfl, _⟩ := hy
    exact absurd h (it i ds s t)
  · obtain ⟨i, rfl⟩ := hy
    obtain ⟨ds, rfl, _⟩ := hx
    exact absurd h.symm (it i ds t s)
  · exact pf_tup P h41 hne x y hx hy s t hs ht h
/-- nested so deep -/
def Nest : Nat → PyData → Prop
  | 0 => fun d => ∃ i, d = .int i
  | n + 1 => fun d => (∃ i, d = .int i) ∨ ∃ ds, d = .tuple ds ∧ ∀ x ∈ ds, Nest n x
theorem nest_hd : ∀ (n : Nat) (d : PyData), Nest n d → (∀ r, sh d ≠ 41 :: r) ∧ sh d ≠ []
  | 0, _, ⟨i, rfl⟩ => sh_hd_int i
  | _ + 1, _, .inl ⟨i, rfl⟩ => sh_hd_int i
  | _ + 1, _, .inr ⟨ds, rfl, _⟩ => sh_hd_tup ds
theorem pf_nest : ∀ n, Pf (Nest n)
  | 0 => pf_int
  | n + 1 => pf_or (pf_nest n) (fun x hx => (nest_hd n x hx).1) fun x hx => (nest_hd n x hx).2
theorem nest_amt (d : Int) (L : List (Int × Int)) : Nest 3 (amtD d L) := by
  refine .inr ⟨_, rfl, fun x hx => ?_⟩
  rcases List.mem_cons.mp hx with e | hx
  · exact .inl ⟨_, e⟩
  · refine .inr ⟨_, List.mem_singleton.mp hx, fun y hy => ?_⟩
    obtain ⟨q, _, rfl⟩ := List.mem_map.mp hy
    refine .inr ⟨_, rfl, fun z hz => ?_⟩
    rcases List.mem_cons.mp hz with e | hz
    · exact ⟨_, e⟩
    · exact ⟨_, List.mem_singleton.mp hz⟩
/-- unlike amounts are told by unlike texts -/
theorem amt_inj {d e : Int} {L M : List (Int × Int)} (h : (amtD d L).shown = (amtD e M).shown) : d = e ∧ L = M := by
  have := pf_inj (pf_nest 3) (nest_amt d L) (nest_amt e M) h
  unfold amtD at this
  obtain ⟨g1, g2⟩ := List.cons.inj (PyData.tuple.inj this)
  refine ⟨PyData.int.inj g1, ?_⟩
  have g3 := PyData.tuple.inj (List.cons.inj g2).1
  have inj : ∀ {L M : List (Int × Int)}, (L.map fun q => PyData.tuple [.int q.1, .int q.2]) = (M.map fun q => PyData.tuple [.int q.1, .int q.2]) → L = M := by
    intro L
    induction L with
    | nil =>
      intro M h
      cases M with
      | nil => rfl
      | cons => cases h
    | cons x r ih =>
      intro M h
      cases M with
      | nil => cases h
      | cons y r2 =>
        obtain ⟨k1, k2⟩ := List.cons.inj h
        have k3 := PyData.tuple.inj k1
        obtain ⟨k4, k5⟩ := List.cons.inj k3
        have k6 := PyData.int.inj k4
        have k7 := PyData.int.inj (List.cons.inj k5).1
        rw [ih k2]
        congr 1
        exact Prod.ext k6 k7
  exact inj g3
end Ly

namespace K02
open PySem PySem.Spec PyProof.Rows L2 Ly
def top (i : Nat) : Stmt := PySem.Challenge.pw_toldamounts_k02_whole_sums_and_multiples.main.body.getD i (.Pass ⟨0, 0, 0, 0⟩)
abbrev s_is_integer : Stmt := top 7
abbrev s_is_integer_in : Stmt := top 8
abbrev s_is_tuple_of : Stmt := top 9
abbrev s_are_integers_in : Stmt := top 10
abbrev s_is_ascending : Stmt := top 11
abbrev s_is_prime : Stmt := top 13
abbrev s_prime_powers : Stmt := top 14
abbrev s_amount_from : Stmt := top 16
abbrev s_logs_added : Stmt := top 17
abbrev s_spread_of : Stmt := top 18
abbrev s_combined : Stmt := top 19
abbrev s_power : Stmt := top 20
abbrev s_products_of : Stmt := top 21
abbrev s_is_part : Stmt := top 28
abbrev s_is_amount : Stmt := top 29
abbrev s_require_amount : Stmt := top 30
abbrev s_require_number : Stmt := top 31
abbrev s_amount_of : Stmt := top 32
abbrev s_spread : Stmt := top 33
abbrev s_plus : Stmt := top 34
abbrev s_minus : Stmt := top 35
abbrev s_is_below : Stmt := top 36
abbrev s_times : Stmt := top 37
abbrev s_sign_of : Stmt := top 38
abbrev s_steps_of : Stmt := top 39
abbrev s_greatest_power : Stmt := top 40
abbrev s_L_deck : Stmt := top 42
abbrev s_L_draw : Stmt := top 43
abbrev s_L_pick : Stmt := top 44
abbrev s_L_gcd : Stmt := top 45
abbrev s_L_power : Stmt := top 46
abbrev s_L_is_integer : Stmt := top 47
abbrev s_L_is_prime : Stmt := top 48
abbrev s_L_is_own_amount : Stmt := top 49
abbrev s_L_sides : Stmt := top 50
abbrev s_L_stands : Stmt := top 51
abbrev s_L_whole : Stmt := top 52
abbrev s_L_is_near_enough : Stmt := top 53
abbrev s_L_drawn : Stmt := top 54
abbrev s_L_is_sum : Stmt := top 55
abbrev s_L_order : Stmt := top 56
abbrev s_L_is_two_right : Stmt := top 57
abbrev s_L_is_multiple_right : Stmt := top 58
abbrev s_L_are_logarithms_right : Stmt := top 59
abbrev s_law : Stmt := top 60
def d_is_integer : He.DefD := Ly.dOf "is_integer" s_is_integer
def d_is_integer_in : He.DefD := Ly.dOf "is_integer_in" s_is_integer_in
def d_is_tuple_of : He.DefD := Ly.dOf "is_tuple_of" s_is_tuple_of
def d_are_integers_in : He.DefD := Ly.dOf "are_integers_in" s_are_integers_in
def d_is_ascending : He.DefD := Ly.dOf "is_ascending" s_is_ascending
def d_is_prime : He.DefD := Ly.dOf "is_prime" s_is_prime
def d_prime_powers : He.DefD := Ly.dOf "prime_powers" s_prime_powers
def d_amount_from : He.DefD := Ly.dOf "amount_from" s_amount_from
def d_logs_added : He.DefD := Ly.dOf "logs_added" s_logs_added
def d_spread_of : He.DefD := Ly.dOf "spread_of" s_spread_of
def d_combined : He.DefD := Ly.dOf "combined" s_combined
def d_power : He.DefD := Ly.dOf "power" s_power
def d_products_of : He.DefD := Ly.dOf "products_of" s_products_of
def d_is_part : He.DefD := Ly.dOf "is_part" s_is_part
def d_is_amount : He.DefD := Ly.dOf "is_amount" s_is_amount
def d_require_amount : He.DefD := Ly.dOf "require_amount" s_require_amount
def d_require_number : He.DefD := Ly.dOf "require_number" s_require_number
def d_amount_of : He.DefD := Ly.dOf "amount_of" s_amount_of
def d_spread : He.DefD := Ly.dOf "spread" s_spread
def d_plus : He.DefD := Ly.dOf "plus" s_plus
def d_minus : He.DefD := Ly.dOf "minus" s_minus
def d_is_below : He.DefD := Ly.dOf "is_below" s_is_below
def d_times : He.DefD := Ly.dOf "times" s_times
def d_sign_of : He.DefD := Ly.dOf "sign_of" s_sign_of
def d_steps_of : He.DefD := Ly.dOf "steps_of" s_steps_of
def d_greatest_power : He.DefD := Ly.dOf "greatest_power" s_greatest_power
def d_L_deck : He.DefD := Ly.dOf "_law_deck" s_L_deck
def d_L_draw : He.DefD := Ly.dOf "_law_draw" s_L_draw
def d_L_pick : He.DefD := Ly.dOf "_law_pick" s_L_pick
def d_L_gcd : He.DefD := Ly.dOf "_law_gcd" s_L_gcd
def d_L_power : He.DefD := Ly.dOf "_law_power" s_L_power
def d_L_is_integer : He.DefD := Ly.dOf "_law_is_integer" s_L_is_integer
def d_L_is_prime : He.DefD := Ly.dOf "_law_is_prime" s_L_is_prime
def d_L_is_own_amount : He.DefD := Ly.dOf "_law_is_own_amount" s_L_is_own_amount
def d_L_sides : He.DefD := Ly.dOf "_law_sides" s_L_sides
def d_L_stands : He.DefD := Ly.dOf "_law_stands" s_L_stands
def d_L_whole : He.DefD := Ly.dOf "_law_whole" s_L_whole
def d_L_is_near_enough : He.DefD := Ly.dOf "_law_is_near_enough" s_L_is_near_enough
def d_L_drawn : He.DefD := Ly.dOf "_law_drawn" s_L_drawn
def d_L_is_sum : He.DefD := Ly.dOf "_law_is_sum" s_L_is_sum
def d_L_order : He.DefD := Ly.dOf "_law_order" s_L_order
def d_L_is_two_right : He.DefD := Ly.dOf "_law_is_two_right" s_L_is_two_right
def d_L_is_multiple_right : He.DefD := Ly.dOf "_law_is_multiple_right" s_L_is_multiple_right
def d_L_are_logarithms_right : He.DefD := Ly.dOf "_law_are_logarithms_right" s_L_are_logarithms_right
def d_law : He.DefD := Ly.dOf "law" s_law
def fn : List He.DefD := [d_is_integer, d_is_integer_in, d_is_tuple_of, d_are_integers_in, d_is_ascending, d_is_prime, d_prime_powers, d_amount_from, d_logs_added, d_spread_of, d_combined, d_power, d_products_of, d_is_part, d_is_amount, d_require_amount, d_require_number, d_amount_of, d_spread, d_plus, d_minus, d_is_below, d_times, d_sign_of, d_steps_of, d_greatest_power, d_L_deck, d_L_draw, d_L_pick, d_L_gcd, d_L_power, d_L_is_integer, d_L_is_prime, d_L_is_own_amount, d_L_sides, d_L_stands, d_L_whole, d_L_is_near_enough, d_L_drawn, d_L_is_sum, d_L_order, d_L_is_two_right, d_L_is_multiple_right, d_L_are_logarithms_right, d_law]
def fa : List He.Fa := [.glo "is_integer", .glo "is_integer_in", .glo "is_tuple_of", .glo "are_integers_in", .glo "is_ascending", .glo "is_prime", .glo "prime_powers", .glo "amount_from", .glo "logs_added", .glo "spread_of", .glo "combined", .glo "power", .glo "products_of", .glo "is_part", .glo "is_amount", .glo "require_amount", .glo "require_number", .glo "amount_of", .glo "spread", .glo "plus", .glo "minus", .glo "is_below", .glo "times", .glo "sign_of", .glo "steps_of", .glo "greatest_power", .glo "_law_deck", .glo "_law_draw", .glo "_law_pick", .glo "_law_gcd", .glo "_law_power", .glo "_law_is_integer", .glo "_law_is_prime", .glo "_law_is_own_amount", .glo "_law_sides", .glo "_law_stands", .glo "_law_whole", .glo "_law_is_near_enough", .glo "_law_drawn", .glo "_law_is_sum", .glo "_law_order", .glo "_law_is_two_right", .glo "_law_is_multiple_right", .glo "_law_are_logarithms_right", .glo "law", .free "isinstance", .free "int", .free "bool", .free "tuple", .free "len", .free "all", .free "zip", .free "range", .free "sorted", .free "sum", .free "list", .free "max", .free "abs", .free "dict", .free "set", .free "repr", .int "ABOVE_PRIMES" 1000000, .int "MOST_COUNTS" 40, .int "MOST_COUNT" 999, .int "MOST_TOP" 1000, .int "MOST_K" 100]
def ex (K : PySem.W.Frag) : Bool := He.eqO (PySem.W.nsIn K mainGlobals "gcd") (some (some (.builtin "math.gcd"))) && He.eqO (PySem.W.nsIn K mainGlobals "isqrt") (some (some (.builtin "math.isqrt"))) && He.eqO (PySem.W.nsIn K mainGlobals "lcm") (some (some (.builtin "math.lcm")))
abbrev n_is_integer : List Str := ["thing"]
theorem sc_is_integer : FnScope n_is_integer ["thing"] (defScope s_is_integer) := ⟨rfl, rfl, rfl, by decide +kernel, rfl, by decide +kernel, by decide +kernel⟩
abbrev n_is_integer_in : List Str := ["thing", "low", "high"]
theorem sc_is_integer_in : FnScope n_is_integer_in ["thing", "low", "high"] (defScope s_is_integer_in) := ⟨rfl, rfl, rfl, by decide +kernel, rfl, by decide +kernel, by decide +kernel⟩
abbrev n_is_tuple_of : List Str := ["thing", "size"]
theorem sc_is_tuple_of : FnScope n_is_tuple_of ["thing", "size"] (defScope s_is_tuple_of) := ⟨rfl, rfl, rfl, by decide +kernel, rfl, by decide +kernel, by decide +kernel⟩
abbrev n_are_integers_in : List Str := ["thing", "low", "high", "item"]
theorem sc_are_integers_in : FnScope n_are_integers_in ["thing", "low", "high"] (defScope s_are_integers_in) := ⟨rfl, rfl, rfl, by decide +kernel, rfl, by decide +kernel, by decide +kernel⟩
abbrev n_is_ascending : List Str := ["items", "one", "other"]
theorem sc_is_ascending : FnScope n_is_ascending ["items"] (defScope s_is_ascending) := ⟨rfl, rfl, rfl, by decide +kernel, rfl, by decide +kernel, by decide +kernel⟩
abbrev n_is_prime : List Str := ["number", "divisor"]
theorem sc_is_prime : FnScope n_is_prime ["number"] (defScope s_is_prime) := ⟨rfl, rfl, rfl, by decide +kernel, rfl, by decide +kernel, by decide +kernel⟩
abbrev n_prime_powers : List Str := ["number", "powers", "divisor"]
theorem sc_prime_powers : FnScope n_prime_powers ["number"] (defScope s_prime_powers) := ⟨rfl, rfl, rfl, by decide +kernel, rfl, by decide +kernel, by decide +kernel⟩
abbrev n_amount_from : List Str := ["bottom", "powers", "divisor", "factor", "parts", "prime"]
theorem sc_amount_from : FnScope n_amount_from ["bottom", "powers"] (defScope s_amount_from) := ⟨rfl, rfl, rfl, by decide +kernel, rfl, by decide +kernel, by decide +kernel⟩
abbrev n_logs_added : List Str := ["pairs", "powers", "factor", "number", "found", "prime", "many"]
theorem sc_logs_added : FnScope n_logs_added ["pairs"] (defScope s_logs_added) := ⟨rfl, rfl, rfl, by decide +kernel, rfl, by decide +kernel, by decide +kernel⟩
abbrev n_spread_of : List Str := ["counts", "total", "count"]
theorem sc_spread_of : FnScope n_spread_of ["counts"] (defScope s_spread_of) := ⟨rfl, rfl, rfl, by decide +kernel, rfl, by decide +kernel, by decide +kernel⟩
abbrev n_combined : List Str := ["pairs", "bottom", "_", "amount", "powers", "factor", "stretch", "prime", "many"]
theorem sc_combined : FnScope n_combined ["pairs"] (defScope s_combined) := ⟨rfl, rfl, rfl, by decide +kernel, rfl, by decide +kernel, by decide +kernel⟩
abbrev n_power : List Str := ["base", "exponent", "result"]
theorem sc_power : FnScope n_power ["base", "exponent"] (defScope s_power) := ⟨rfl, rfl, rfl, by decide +kernel, rfl, by decide +kernel, by decide +kernel⟩
abbrev n_products_of : List Str := ["parts", "k", "above", "below", "prime", "factor"]
theorem sc_products_of : FnScope n_products_of ["parts", "k"] (defScope s_products_of) := ⟨rfl, rfl, rfl, by decide +kernel, rfl, by decide +kernel, by decide +kernel⟩
abbrev n_is_part : List Str := ["thing"]
theorem sc_is_part : FnScope n_is_part ["thing"] (defScope s_is_part) := ⟨rfl, rfl, rfl, by decide +kernel, rfl, by decide +kernel, by decide +kernel⟩
abbrev n_is_amount : List Str := ["thing", "bottom", "parts", "part", "divisor"]
theorem sc_is_amount : FnScope n_is_amount ["thing"] (defScope s_is_amount) := ⟨rfl, rfl, rfl, by decide +kernel, rfl, by decide +kernel, by decide +kernel⟩
abbrev n_require_amount : List Str := ["thing"]
theorem sc_require_amount : FnScope n_require_amount ["thing"] (defScope s_require_amount) := ⟨rfl, rfl, rfl, by decide +kernel, rfl, by decide +kernel, by decide +kernel⟩
abbrev n_require_number : List Str := ["thing", "low", "high"]
theorem sc_require_number : FnScope n_require_number ["thing", "low", "high"] (defScope s_require_number) := ⟨rfl, rfl, rfl, by decide +kernel, rfl, by decide +kernel, by decide +kernel⟩
abbrev n_amount_of : List Str := ["number"]
theorem sc_amount_of : FnScope n_amount_of ["number"] (defScope s_amount_of) := ⟨rfl, rfl, rfl, by decide +kernel, rfl, by decide +kernel, by decide +kernel⟩
abbrev n_spread : List Str := ["counts"]
theorem sc_spread : FnScope n_spread ["counts"] (defScope s_spread) := ⟨rfl, rfl, rfl, by decide +kernel, rfl, by decide +kernel, by decide +kernel⟩
abbrev n_plus : List Str := ["one", "other"]
theorem sc_plus : FnScope n_plus ["one", "other"] (defScope s_plus) := ⟨rfl, rfl, rfl, by decide +kernel, rfl, by decide +kernel, by decide +kernel⟩
abbrev n_minus : List Str := ["one", "other"]
theorem sc_minus : FnScope n_minus ["one", "other"] (defScope s_minus) := ⟨rfl, rfl, rfl, by decide +kernel, rfl, by decide +kernel, by decide +kernel⟩
abbrev n_is_below : List Str := ["one", "other"]
theorem sc_is_below : FnScope n_is_below ["one", "other"] (defScope s_is_below) := ⟨rfl, rfl, rfl, by decide +kernel, rfl, by decide +kernel, by decide +kernel⟩
abbrev n_times : List Str := ["amount", "top", "bottom", "powers", "prime", "factor"]
theorem sc_times : FnScope n_times ["amount", "top", "bottom"] (defScope s_times) := ⟨rfl, rfl, rfl, by decide +kernel, rfl, by decide +kernel, by decide +kernel⟩
abbrev n_sign_of : List Str := ["amount", "above", "below"]
theorem sc_sign_of : FnScope n_sign_of ["amount"] (defScope s_sign_of) := ⟨rfl, rfl, rfl, by decide +kernel, rfl, by decide +kernel, by decide +kernel⟩
abbrev n_steps_of : List Str := ["amount", "k", "above", "below"]
theorem sc_steps_of : FnScope n_steps_of ["amount", "k"] (defScope s_steps_of) := ⟨rfl, rfl, rfl, by decide +kernel, rfl, by decide +kernel, by decide +kernel⟩
abbrev n_greatest_power : List Str := ["above", "below", "guess", "fits"]
theorem sc_greatest_power : FnScope n_greatest_power ["above", "below"] (defScope s_greatest_power) := ⟨rfl, rfl, rfl, by decide +kernel, rfl, by decide +kernel, by decide +kernel⟩
abbrev n_L_deck : List Str := ["_law_script", "_law_mixed", "_law_cell"]
theorem sc_L_deck : FnScope n_L_deck ["_law_script"] (defScope s_L_deck) := ⟨rfl, rfl, rfl, by decide +kernel, rfl, by decide +kernel, by decide +kernel⟩
abbrev n_L_draw : List Str := ["_law_deck_here", "_law_many", "_law_number", "_law_cell"]
theorem sc_L_draw : FnScope n_L_draw ["_law_deck_here", "_law_many"] (defScope s_L_draw) := ⟨rfl, rfl, rfl, by decide +kernel, rfl, by decide +kernel, by decide +kernel⟩
abbrev n_L_pick : List Str := ["_law_deck_here", "_law_some"]
theorem sc_L_pick : FnScope n_L_pick ["_law_deck_here", "_law_some"] (defScope s_L_pick) := ⟨rfl, rfl, rfl, by decide +kernel, rfl, by decide +kernel, by decide +kernel⟩
abbrev n_L_gcd : List Str := ["_law_a", "_law_b", "_law_turn"]
theorem sc_L_gcd : FnScope n_L_gcd ["_law_a", "_law_b"] (defScope s_L_gcd) := ⟨rfl, rfl, rfl, by decide +kernel, rfl, by decide +kernel, by decide +kernel⟩
abbrev n_L_power : List Str := ["_law_base", "_law_exponent", "_law_found", "_law_left", "_law_turn"]
theorem sc_L_power : FnScope n_L_power ["_law_base", "_law_exponent"] (defScope s_L_power) := ⟨rfl, rfl, rfl, by decide +kernel, rfl, by decide +kernel, by decide +kernel⟩
abbrev n_L_is_integer : List Str := ["_law_thing"]
theorem sc_L_is_integer : FnScope n_L_is_integer ["_law_thing"] (defScope s_L_is_integer) := ⟨rfl, rfl, rfl, by decide +kernel, rfl, by decide +kernel, by decide +kernel⟩
abbrev n_L_is_prime : List Str := ["_law_p", "_law_q"]
theorem sc_L_is_prime : FnScope n_L_is_prime ["_law_p"] (defScope s_L_is_prime) := ⟨rfl, rfl, rfl, by decide +kernel, rfl, by decide +kernel, by decide +kernel⟩
abbrev n_L_is_own_amount : List Str := ["_law_thing", "_law_common", "_law_last", "_law_part"]
theorem sc_L_is_own_amount : FnScope n_L_is_own_amount ["_law_thing"] (defScope s_L_is_own_amount) := ⟨rfl, rfl, rfl, by decide +kernel, rfl, by decide +kernel, by decide +kernel⟩
abbrev n_L_sides : List Str := ["_law_amount", "_law_up", "_law_down", "_law_p", "_law_c"]
theorem sc_L_sides : FnScope n_L_sides ["_law_amount"] (defScope s_L_sides) := ⟨rfl, rfl, rfl, by decide +kernel, rfl, by decide +kernel, by decide +kernel⟩
abbrev n_L_stands : List Str := ["_law_amount", "_law_many", "_law_top", "_law_bottom", "_law_common", "_law_up", "_law_down", "_law_near", "_law_far"]
theorem sc_L_stands : FnScope n_L_stands ["_law_amount", "_law_many", "_law_top", "_law_bottom"] (defScope s_L_stands) := ⟨rfl, rfl, rfl, by decide +kernel, rfl, by decide +kernel, by decide +kernel⟩
abbrev n_L_whole : List Str := ["_law_counts", "_law_found", "_law_count"]
theorem sc_L_whole : FnScope n_L_whole ["_law_counts"] (defScope s_L_whole) := ⟨rfl, rfl, rfl, by decide +kernel, rfl, by decide +kernel, by decide +kernel⟩
abbrev n_L_is_near_enough : List Str := ["_law_one", "_law_other", "_law_bottom", "_law_near", "_law_far", "_law_cost", "_law_p"]
theorem sc_L_is_near_enough : FnScope n_L_is_near_enough ["_law_one", "_law_other"] (defScope s_L_is_near_enough) := ⟨rfl, rfl, rfl, by decide +kernel, rfl, by decide +kernel, by decide +kernel⟩
abbrev n_L_drawn : List Str := ["_law_deck_here", "_law_way", "_law_number", "_law_by", "_law_top", "_law_up", "_law_down", "_law_counts", "_law_total", "_law_turn"]
theorem sc_L_drawn : FnScope n_L_drawn ["_law_deck_here"] (defScope s_L_drawn) := ⟨rfl, rfl, rfl, by decide +kernel, rfl, by decide +kernel, by decide +kernel⟩
abbrev n_L_is_sum : List Str := ["_law_one", "_law_other", "_law_both", "_law_sign", "_law_near", "_law_far", "_law_many", "_law_top", "_law_bottom"]
theorem sc_L_is_sum : FnScope n_L_is_sum ["_law_one", "_law_other", "_law_both", "_law_sign"] (defScope s_L_is_sum) := ⟨rfl, rfl, rfl, by decide +kernel, rfl, by decide +kernel, by decide +kernel⟩
abbrev n_L_order : List Str := ["_law_one", "_law_other", "_law_near", "_law_far", "_law_left", "_law_right"]
theorem sc_L_order : FnScope n_L_order ["_law_one", "_law_other"] (defScope s_L_order) := ⟨rfl, rfl, rfl, by decide +kernel, rfl, by decide +kernel, by decide +kernel⟩
abbrev n_L_is_two_right : List Str := ["_law_one", "_law_other", "_law_a", "_law_b", "_law_due"]
theorem sc_L_is_two_right : FnScope n_L_is_two_right ["_law_one", "_law_other"] (defScope s_L_is_two_right) := ⟨rfl, rfl, rfl, by decide +kernel, rfl, by decide +kernel, by decide +kernel⟩
abbrev n_L_is_multiple_right : List Str := ["_law_deck_here", "_law_one", "_law_other", "_law_a", "_law_many", "_law_up", "_law_down", "_law_top", "_law_by", "_law_near", "_law_due", "_law_k", "_law_steps", "_law_turn", "_law_fits", "_law_left", "_law_right"]
theorem sc_L_is_multiple_right : FnScope n_L_is_multiple_right ["_law_deck_here", "_law_one", "_law_other"] (defScope s_L_is_multiple_right) := ⟨rfl, rfl, rfl, by decide +kernel, rfl, by decide +kernel, by decide +kernel⟩
abbrev n_L_are_logarithms_right : List Str := ["_law_deck_here", "_law_a", "_law_b", "_law_k", "_law_small"]
theorem sc_L_are_logarithms_right : FnScope n_L_are_logarithms_right ["_law_deck_here"] (defScope s_L_are_logarithms_right) := ⟨rfl, rfl, rfl, by decide +kernel, rfl, by decide +kernel, by decide +kernel⟩
abbrev n_law : List Str := ["_law_script", "_law_deck_here", "_law_turn", "_law_some", "_law_one", "_law_other", "_law_third"]
theorem sc_law : FnScope n_law ["_law_script"] (defScope s_law) := ⟨rfl, rfl, rfl, by decide +kernel, rfl, by decide +kernel, by decide +kernel⟩
/-- what the top has left -/
structure Tx (K : PySem.W.Frag) (mg : Str → Option Value) : Prop where
  says : He.SaysD fa fn K
  g_is_integer : mg "is_integer" = some (.ref (He.ga K "is_integer"))
  g_is_integer_in : mg "is_integer_in" = some (.ref (He.ga K "is_integer_in"))
  g_is_tuple_of : mg "is_tuple_of" = some (.ref (He.ga K "is_tuple_of"))
  g_are_integers_in : mg "are_integers_in" = some (.ref (He.ga K "are_integers_in"))
  g_is_ascending : mg "is_ascending" = some (.ref (He.ga K "is_ascending"))
  g_is_prime : mg "is_prime" = some (.ref (He.ga K "is_prime"))
  g_prime_powers : mg "prime_powers" = some (.ref (He.ga K "prime_powers"))
  g_amount_from : mg "amount_from" = some (.ref (He.ga K "amount_from"))
  g_logs_added : mg "logs_added" = some (.ref (He.ga K "logs_added"))
  g_spread_of : mg "spread_of" = some (.ref (He.ga K "spread_of"))
  g_combined : mg "combined" = some (.ref (He.ga K "combined"))
  g_power : mg "power" = some (.ref (He.ga K "power"))
  g_products_of : mg "products_of" = some (.ref (He.ga K "products_of"))
  g_is_part : mg "is_part" = some (.ref (He.ga K "is_part"))
  g_is_amount : mg "is_amount" = some (.ref (He.ga K "is_amount"))
  g_require_amount : mg "require_amount" = some (.ref (He.ga K "require_amount"))
  g_require_number : mg "require_number" = some (.ref (He.ga K "require_number"))
  g_amount_of : mg "amount_of" = some (.ref (He.ga K "amount_of"))
  g_spread : mg "spread" = some (.ref (He.ga K "spread"))
  g_plus : mg "plus" = some (.ref (He.ga K "plus"))
  g_minus : mg "minus" = some (.ref (He.ga K "minus"))
  g_is_below : mg "is_below" = some (.ref (He.ga K "is_below"))
  g_times : mg "times" = some (.ref (He.ga K "times"))
  g_sign_of : mg "sign_of" = some (.ref (He.ga K "sign_of"))
  g_steps_of : mg "steps_of" = some (.ref (He.ga K "steps_of"))
  g_greatest_power : mg "greatest_power" = some (.ref (He.ga K "greatest_power"))
  g_L_deck : mg "_law_deck" = some (.ref (He.ga K "_law_deck"))
  g_L_draw : mg "_law_draw" = some (.ref (He.ga K "_law_draw"))
  g_L_pick : mg "_law_pick" = some (.ref (He.ga K "_law_pick"))
  g_L_gcd : mg "_law_gcd" = some (.ref (He.ga K "_law_gcd"))
  g_L_power : mg "_law_power" = some (.ref (He.ga K "_law_power"))
  g_L_is_integer : mg "_law_is_integer" = some (.ref (He.ga K "_law_is_integer"))
  g_L_is_prime : mg "_law_is_prime" = some (.ref (He.ga K "_law_is_prime"))
  g_L_is_own_amount : mg "_law_is_own_amount" = some (.ref (He.ga K "_law_is_own_amount"))
  g_L_sides : mg "_law_sides" = some (.ref (He.ga K "_law_sides"))
  g_L_stands : mg "_law_stands" = some (.ref (He.ga K "_law_stands"))
  g_L_whole : mg "_law_whole" = some (.ref (He.ga K "_law_whole"))
  g_L_is_near_enough : mg "_law_is_near_enough" = some (.ref (He.ga K "_law_is_near_enough"))
  g_L_drawn : mg "_law_drawn" = some (.ref (He.ga K "_law_drawn"))
  g_L_is_sum : mg "_law_is_sum" = some (.ref (He.ga K "_law_is_sum"))
  g_L_order : mg "_law_order" = some (.ref (He.ga K "_law_order"))
  g_L_is_two_right : mg "_law_is_two_right" = some (.ref (He.ga K "_law_is_two_right"))
  g_L_is_multiple_right : mg "_law_is_multiple_right" = some (.ref (He.ga K "_law_is_multiple_right"))
  g_L_are_logarithms_right : mg "_law_are_logarithms_right" = some (.ref (He.ga K "_law_are_logarithms_right"))
  g_law : mg "law" = some (.ref (He.ga K "law"))
  f_isinstance : mg "isinstance" = none
  f_int : mg "int" = none
  f_bool : mg "bool" = none
  f_tuple : mg "tuple" = none
  f_len : mg "len" = none
  f_all : mg "all" = none
  f_zip : mg "zip" = none
  f_range : mg "range" = none
  f_sorted : mg "sorted" = none
  f_sum : mg "sum" = none
  f_list : mg "list" = none
  f_max : mg "max" = none
  f_abs : mg "abs" = none
  f_dict : mg "dict" = none
  f_set : mg "set" = none
  f_repr : mg "repr" = none
  i_ABOVE_PRIMES : ∃ t, mg "ABOVE_PRIMES" = some (.int 1000000 t)
  i_MOST_COUNTS : ∃ t, mg "MOST_COUNTS" = some (.int 40 t)
  i_MOST_COUNT : ∃ t, mg "MOST_COUNT" = some (.int 999 t)
  i_MOST_TOP : ∃ t, mg "MOST_TOP" = some (.int 1000 t)
  i_MOST_K : ∃ t, mg "MOST_K" = some (.int 100 t)
  b_gcd : mg "gcd" = some (.builtin "math.gcd")
  b_isqrt : mg "isqrt" = some (.builtin "math.isqrt")
  b_lcm : mg "lcm" = some (.builtin "math.lcm")
theorem Tx.mk_of {K : PySem.W.Frag} {h : Heap} {mg : Str → Option Value} {w : World} {hh : Heap} (X : K.In h) (G : h.Ns mainGlobals mg) (c : He.SaysX fa fn [] [] ex w hh K) : Tx K mg := by
  have s := Ly.saysD_of c
  have m := c.more
  unfold ex at m
  simp only [Bool.and_eq_true] at m
  exact ⟨s,
    He.glo_ok X G (s.fact 0 (f := .glo "is_integer") rfl),
    He.glo_ok X G (s.fact 1 (f := .glo "is_integer_in") rfl),
    He.glo_ok X G (s.fact 2 (f := .glo "is_tuple_of") rfl),
    He.glo_ok X G (s.fact 3 (f := .glo "are_integers_in") rfl),
    He.glo_ok X G (s.fact 4 (f := .glo "is_ascending") rfl),
    He.glo_ok X G (s.fact 5 (f := .glo "is_prime") rfl),
    He.glo_ok X G (s.fact 6 (f := .glo "prime_powers") rfl),
    He.glo_ok X G (s.fact 7 (f := .glo "amount_from") rfl),
    He.glo_ok X G (s.fact 8 (f := .glo "logs_added") rfl),
    He.glo_ok X G (s.fact 9 (f := .glo "spread_of") rfl),
    He.glo_ok X G (s.fact 10 (f := .glo "combined") rfl),
    He.glo_ok X G (s.fact 11 (f := .glo "power") rfl),
    He.glo_ok X G (s.fact 12 (f := .glo "products_of") rfl),
    He.glo_ok X G (s.fact 13 (f := .glo "is_part") rfl),
    He.glo_ok X G (s.fact 14 (f := .glo "is_amount") rfl),
    He.glo_ok X G (s.fact 15 (f := .glo "require_amount") rfl),
    He.glo_ok X G (s.fact 16 (f := .glo "require_number") rfl),
    He.glo_ok X G (s.fact 17 (f := .glo "amount_of") rfl),
    He.glo_ok X G (s.fact 18 (f := .glo "spread") rfl),
    He.glo_ok X G (s.fact 19 (f := .glo "plus") rfl),
    He.glo_ok X G (s.fact 20 (f := .glo "minus") rfl),
    He.glo_ok X G (s.fact 21 (f := .glo "is_below") rfl),
    He.glo_ok X G (s.fact 22 (f := .glo "times") rfl),
    He.glo_ok X G (s.fact 23 (f := .glo "sign_of") rfl),
    He.glo_ok X G (s.fact 24 (f := .glo "steps_of") rfl),
    He.glo_ok X G (s.fact 25 (f := .glo "greatest_power") rfl),
    He.glo_ok X G (s.fact 26 (f := .glo "_law_deck") rfl),
    He.glo_ok X G (s.fact 27 (f := .glo "_law_draw") rfl),
    He.glo_ok X G (s.fact 28 (f := .glo "_law_pick") rfl),
    He.glo_ok X G (s.fact 29 (f := .glo "_law_gcd") rfl),
    He.glo_ok X G (s.fact 30 (f := .glo "_law_power") rfl),
    He.glo_ok X G (s.fact 31 (f := .glo "_law_is_integer") rfl),
    He.glo_ok X G (s.fact 32 (f := .glo "_law_is_prime") rfl),
    He.glo_ok X G (s.fact 33 (f := .glo "_law_is_own_amount") rfl),
    He.glo_ok X G (s.fact 34 (f := .glo "_law_sides") rfl),
    He.glo_ok X G (s.fact 35 (f := .glo "_law_stands") rfl),
    He.glo_ok X G (s.fact 36 (f := .glo "_law_whole") rfl),
    He.glo_ok X G (s.fact 37 (f := .glo "_law_is_near_enough") rfl),
    He.glo_ok X G (s.fact 38 (f := .glo "_law_drawn") rfl),
    He.glo_ok X G (s.fact 39 (f := .glo "_law_is_sum") rfl),
    He.glo_ok X G (s.fact 40 (f := .glo "_law_order") rfl),
    He.glo_ok X G (s.fact 41 (f := .glo "_law_is_two_right") rfl),
    He.glo_ok X G (s.fact 42 (f := .glo "_law_is_multiple_right") rfl),
    He.glo_ok X G (s.fact 43 (f := .glo "_law_are_logarithms_right") rfl),
    He.glo_ok X G (s.fact 44 (f := .glo "law") rfl),
    He.free_ok X G (s.fact 45 (f := .free "isinstance") rfl),
    He.free_ok X G (s.fact 46 (f := .free "int") rfl),
    He.free_ok X G (s.fact 47 (f := .free "bool") rfl),
    He.free_ok X G (s.fact 48 (f := .free "tuple") rfl),
    He.free_ok X G (s.fact 49 (f := .free "len") rfl),
    He.free_ok X G (s.fact 50 (f := .free "all") rfl),
    He.free_ok X G (s.fact 51 (f := .free "zip") rfl),
    He.free_ok X G (s.fact 52 (f := .free "range") rfl),
    He.free_ok X G (s.fact 53 (f := .free "sorted") rfl),
    He.free_ok X G (s.fact 54 (f := .free "sum") rfl),
    He.free_ok X G (s.fact 55 (f := .free "list") rfl),
    He.free_ok X G (s.fact 56 (f := .free "max") rfl),
    He.free_ok X G (s.fact 57 (f := .free "abs") rfl),
    He.free_ok X G (s.fact 58 (f := .free "dict") rfl),
    He.free_ok X G (s.fact 59 (f := .free "set") rfl),
    He.free_ok X G (s.fact 60 (f := .free "repr") rfl),
    He.int_ok X G (s.fact 61 (f := .int "ABOVE_PRIMES" 1000000) rfl),
    He.int_ok X G (s.fact 62 (f := .int "MOST_COUNTS" 40) rfl),
    He.int_ok X G (s.fact 63 (f := .int "MOST_COUNT" 999) rfl),
    He.int_ok X G (s.fact 64 (f := .int "MOST_TOP" 1000) rfl),
    He.int_ok X G (s.fact 65 (f := .int "MOST_K" 100) rfl),
    PySem.W.mg_of X G (He.eqO_ok m.1.1),
    PySem.W.mg_of X G (He.eqO_ok m.1.2),
    PySem.W.mg_of X G (He.eqO_ok m.2)⟩
theorem fd_is_integer {K : PySem.W.Frag} {mg : Str → Option Value} (T : Tx K mg) : Ly.Def_ K mg "is_integer" s_is_integer ["thing"] := by
  obtain ⟨fd, F⟩ := T.says.def_ 0 (d := d_is_integer) rfl
  exact ⟨_, fd, F, FunD.bindsN F (ps := ["thing"]) (fun _ _ _ _ _ _ us hl => match us, hl with | [_], _ => rfl), FunD.bindsA F (ps := ["thing"]) (fun _ _ _ _ _ _ us hl => match us, hl with | [_], _ => rfl), T.g_is_integer⟩
theorem fd_is_integer_in {K : PySem.W.Frag} {mg : Str → Option Value} (T : Tx K mg) : Ly.Def_ K mg "is_integer_in" s_is_integer_in ["thing", "low", "high"] := by
  obtain ⟨fd, F⟩ := T.says.def_ 1 (d := d_is_integer_in) rfl
  exact ⟨_, fd, F, FunD.bindsN F (ps := ["thing", "low", "high"]) (fun _ _ _ _ _ _ us hl => match us, hl with | [_, _, _], _ => rfl), FunD.bindsA F (ps := ["thing", "low", "high"]) (fun _ _ _ _ _ _ us hl => match us, hl with | [_, _, _], _ => rfl), T.g_is_integer_in⟩
theorem fd_is_tuple_of {K : PySem.W.Frag} {mg : Str → Option Value} (T : Tx K mg) : Ly.Def_ K mg "is_tuple_of" s_is_tuple_of ["thing", "size"] := by
  obtain ⟨fd, F⟩ := T.says.def_ 2 (d := d_is_tuple_of) rfl
  exact ⟨_, fd, F, FunD.bindsN F (ps := ["thing", "size"]) (fun _ _ _ _ _ _ us hl => match us, hl with | [_, _], _ => rfl), FunD.bindsA F (ps := ["thing", "size"]) (fun _ _ _ _ _ _ us hl => match us, hl with | [_, _], _ => rfl), T.g_is_tuple_of⟩
theorem fd_are_integers_in {K : PySem.W.Frag} {mg : Str → Option Value} (T : Tx K mg) : Ly.Def_ K mg "are_integers_in" s_are_integers_in ["thing", "low", "high"] := by
  obtain ⟨fd, F⟩ := T.says.def_ 3 (d := d_are_integers_in) rfl
  exact ⟨_, fd, F, FunD.bindsN F (ps := ["thing", "low", "high"]) (fun _ _ _ _ _ _ us hl => match us, hl with | [_, _, _], _ => rfl), FunD.bindsA F (ps := ["thing", "low", "high"]) (fun _ _ _ _ _ _ us hl => match us, hl with | [_, _, _], _ => rfl), T.g_are_integers_in⟩
theorem fd_is_ascending {K : PySem.W.Frag} {mg : Str → Option Value} (T : Tx K mg) : Ly.Def_ K mg "is_ascending" s_is_ascending ["items"] := by
  obtain ⟨fd, F⟩ := T.says.def_ 4 (d := d_is_ascending) rfl
  exact ⟨_, fd, F, FunD.bindsN F (ps := ["items"]) (fun _ _ _ _ _ _ us hl => match us, hl with | [_], _ => rfl), FunD.bindsA F (ps := ["items"]) (fun _ _ _ _ _ _ us hl => match us, hl with | [_], _ => rfl), T.g_is_ascending⟩
theorem fd_is_prime {K : PySem.W.Frag} {mg : Str → Option Value} (T : Tx K mg) : Ly.Def_ K mg "is_prime" s_is_prime ["number"] := by
  obtain ⟨fd, F⟩ := T.says.def_ 5 (d := d_is_prime) rfl
  exact ⟨_, fd, F, FunD.bindsN F (ps := ["number"]) (fun _ _ _ _ _ _ us hl => match us, hl with | [_], _ => rfl), FunD.bindsA F (ps := ["number"]) (fun _ _ _ _ _ _ us hl => match us, hl with | [_], _ => rfl), T.g_is_prime⟩
theorem fd_prime_powers {K : PySem.W.Frag} {mg : Str → Option Value} (T : Tx K mg) : Ly.Def_ K mg "prime_powers" s_prime_powers ["number"] := by
  obtain ⟨fd, F⟩ := T.says.def_ 6 (d := d_prime_powers) rfl
  exact ⟨_, fd, F, FunD.bindsN F (ps := ["number"]) (fun _ _ _ _ _ _ us hl => match us, hl with | [_], _ => rfl), FunD.bindsA F (ps := ["number"]) (fun _ _ _ _ _ _ us hl => match us, hl with | [_], _ => rfl), T.g_prime_powers⟩
theorem fd_amount_from {K : PySem.W.Frag} {mg : Str → Option Value} (T : Tx K mg) : Ly.Def_ K mg "amount_from" s_amount_from ["bottom", "powers"] := by
  obtain ⟨fd, F⟩ := T.says.def_ 7 (d := d_amount_from) rfl
  exact ⟨_, fd, F, FunD.bindsN F (ps := ["bottom", "powers"]) (fun _ _ _ _ _ _ us hl => match us, hl with | [_, _], _ => rfl), FunD.bindsA F (ps := ["bottom", "powers"]) (fun _ _ _ _ _ _ us hl => match us, hl with | [_, _], _ => rfl), T.g_amount_from⟩
theorem fd_logs_added {K : PySem.W.Frag} {mg : Str → Option Value} (T : Tx K mg) : Ly.Def_ K mg "logs_added" s_logs_added ["pairs"] := by
  obtain ⟨fd, F⟩ := T.says.def_ 8 (d := d_logs_added) rfl
  exact ⟨_, fd, F, FunD.bindsN F (ps := ["pairs"]) (fun _ _ _ _ _ _ us hl => match us, hl with | [_], _ => rfl), FunD.bindsA F (ps := ["pairs"]) (fun _ _ _ _ _ _ us hl => match us, hl with | [_], _ => rfl), T.g_logs_added⟩
theorem fd_spread_of {K : PySem.W.Frag} {mg : Str → Option Value} (T : Tx K mg) : Ly.Def_ K mg "spread_of" s_spread_of ["counts"] := by
  obtain ⟨fd, F⟩ := T.says.def_ 9 (d := d_spread_of) rfl
  exact ⟨_, fd, F, FunD.bindsN F (ps := ["counts"]) (fun _ _ _ _ _ _ us hl => match us, hl with | [_], _ => rfl), FunD.bindsA F (ps := ["counts"]) (fun _ _ _ _ _ _ us hl => match us, hl with | [_], _ => rfl), T.g_spread_of⟩
theorem fd_combined {K : PySem.W.Frag} {mg : Str → Option Value} (T : Tx K mg) : Ly.Def_ K mg "combined" s_combined ["pairs"] := by
  obtain ⟨fd, F⟩ := T.says.def_ 10 (d := d_combined) rfl
  exact ⟨_, fd, F, FunD.bindsN F (ps := ["pairs"]) (fun _ _ _ _ _ _ us hl => match us, hl with | [_], _ => rfl), FunD.bindsA F (ps := ["pairs"]) (fun _ _ _ _ _ _ us hl => match us, hl with | [_], _ => rfl), T.g_combined⟩
theorem fd_power {K : PySem.W.Frag} {mg : Str → Option Value} (T : Tx K mg) : Ly.Def_ K mg "power" s_power ["base", "exponent"] := by
  obtain ⟨fd, F⟩ := T.says.def_ 11 (d := d_power) rfl
  exact ⟨_, fd, F, FunD.bindsN F (ps := ["base", "exponent"]) (fun _ _ _ _ _ _ us hl => match us, hl with | [_, _], _ => rfl), FunD.bindsA F (ps := ["base", "exponent"]) (fun _ _ _ _ _ _ us hl => match us, hl with | [_, _], _ => rfl), T.g_power⟩
theorem fd_products_of {K : PySem.W.Frag} {mg : Str → Option Value} (T : Tx K mg) : Ly.Def_ K mg "products_of" s_products_of ["parts", "k"] := by
  obtain ⟨fd, F⟩ := T.says.def_ 12 (d := d_products_of) rfl
  exact ⟨_, fd, F, FunD.bindsN F (ps := ["parts", "k"]) (fun _ _ _ _ _ _ us hl => match us, hl with | [_, _], _ => rfl), FunD.bindsA F (ps := ["parts", "k"]) (fun _ _ _ _ _ _ us hl => match us, hl with | [_, _], _ => rfl), T.g_products_of⟩
theorem fd_is_part {K : PySem.W.Frag} {mg : Str → Option Value} (T : Tx K mg) : Ly.Def_ K mg "is_part" s_is_part ["thing"] := by
  obtain ⟨fd, F⟩ := T.says.def_ 13 (d := d_is_part) rfl
  exact ⟨_, fd, F, FunD.bindsN F (ps := ["thing"]) (fun _ _ _ _ _ _ us hl => match us, hl with | [_], _ => rfl), FunD.bindsA F (ps := ["thing"]) (fun _ _ _ _ _ _ us hl => match us, hl with | [_], _ => rfl), T.g_is_part⟩
theorem fd_is_amount {K : PySem.W.Frag} {mg : Str → Option Value} (T : Tx K mg) : Ly.Def_ K mg "is_amount" s_is_amount ["thing"] := by
  obtain ⟨fd, F⟩ := T.says.def_ 14 (d := d_is_amount) rfl
  exact ⟨_, fd, F, FunD.bindsN F (ps := ["thing"]) (fun _ _ _ _ _ _ us hl => match us, hl with | [_], _ => rfl), FunD.bindsA F (ps := ["thing"]) (fun _ _ _ _ _ _ us hl => match us, hl with | [_], _ => rfl), T.g_is_amount⟩
theorem fd_require_amount {K : PySem.W.Frag} {mg : Str → Option Value} (T : Tx K mg) : Ly.Def_ K mg "require_amount" s_require_amount ["thing"] := by
  obtain ⟨fd, F⟩ := T.says.def_ 15 (d := d_require_amount) rfl
  exact ⟨_, fd, F, FunD.bindsN F (ps := ["thing"]) (fun _ _ _ _ _ _ us hl => match us, hl with | [_], _ => rfl), FunD.bindsA F (ps := ["thing"]) (fun _ _ _ _ _ _ us hl => match us, hl with | [_], _ => rfl), T.g_require_amount⟩
theorem fd_require_number {K : PySem.W.Frag} {mg : Str → Option Value} (T : Tx K mg) : Ly.Def_ K mg "require_number" s_require_number ["thing", "low", "high"] := by
  obtain ⟨fd, F⟩ := T.says.def_ 16 (d := d_require_number) rfl
  exact ⟨_, fd, F, FunD.bindsN F (ps := ["thing", "low", "high"]) (fun _ _ _ _ _ _ us hl => match us, hl with | [_, _, _], _ => rfl), FunD.bindsA F (ps := ["thing", "low", "high"]) (fun _ _ _ _ _ _ us hl => match us, hl with | [_, _, _], _ => rfl), T.g_require_number⟩
theorem fd_amount_of {K : PySem.W.Frag} {mg : Str → Option Value} (T : Tx K mg) : Ly.Def_ K mg "amount_of" s_amount_of ["number"] := by
  obtain ⟨fd, F⟩ := T.says.def_ 17 (d := d_amount_of) rfl
  exact ⟨_, fd, F, FunD.bindsN F (ps := ["number"]) (fun _ _ _ _ _ _ us hl => match us, hl with | [_], _ => rfl), FunD.bindsA F (ps := ["number"]) (fun _ _ _ _ _ _ us hl => match us, hl with | [_], _ => rfl), T.g_amount_of⟩
theorem fd_spread {K : PySem.W.Frag} {mg : Str → Option Value} (T : Tx K mg) : Ly.Def_ K mg "spread" s_spread ["counts"] := by
  obtain ⟨fd, F⟩ := T.says.def_ 18 (d := d_spread) rfl
  exact ⟨_, fd, F, FunD.bindsN F (ps := ["counts"]) (fun _ _ _ _ _ _ us hl => match us, hl with | [_], _ => rfl), FunD.bindsA F (ps := ["counts"]) (fun _ _ _ _ _ _ us hl => match us, hl with | [_], _ => rfl), T.g_spread⟩
theorem fd_plus {K : PySem.W.Frag} {mg : Str → Option Value} (T : Tx K mg) : Ly.Def_ K mg "plus" s_plus ["one", "other"] := by
  obtain ⟨fd, F⟩ := T.says.def_ 19 (d := d_plus) rfl
  exact ⟨_, fd, F, FunD.bindsN F (ps := ["one", "other"]) (fun _ _ _ _ _ _ us hl => match us, hl with | [_, _], _ => rfl), FunD.bindsA F (ps := ["one", "other"]) (fun _ _ _ _ _ _ us hl => match us, hl with | [_, _], _ => rfl), T.g_plus⟩
theorem fd_minus {K : PySem.W.Frag} {mg : Str → Option Value} (T : Tx K mg) : Ly.Def_ K mg "minus" s_minus ["one", "other"] := by
  obtain ⟨fd, F⟩ := T.says.def_ 20 (d := d_minus) rfl
  exact ⟨_, fd, F, FunD.bindsN F (ps := ["one", "other"]) (fun _ _ _ _ _ _ us hl => match us, hl with | [_, _], _ => rfl), FunD.bindsA F (ps := ["one", "other"]) (fun _ _ _ _ _ _ us hl => match us, hl with | [_, _], _ => rfl), T.g_minus⟩
theorem fd_is_below {K : PySem.W.Frag} {mg : Str → Option Value} (T : Tx K mg) : Ly.Def_ K mg "is_below" s_is_below ["one", "other"] := by
  obtain ⟨fd, F⟩ := T.says.def_ 21 (d := d_is_below) rfl
  exact ⟨_, fd, F, FunD.bindsN F (ps := ["one", "other"]) (fun _ _ _ _ _ _ us hl => match us, hl with | [_, _], _ => rfl), FunD.bindsA F (ps := ["one", "other"]) (fun _ _ _ _ _ _ us hl => match us, hl with | [_, _], _ => rfl), T.g_is_below⟩
theorem fd_times {K : PySem.W.Frag} {mg : Str → Option Value} (T : Tx K mg) : Ly.Def_ K mg "times" s_times ["amount", "top", "bottom"] := by
  obtain ⟨fd, F⟩ := T.says.def_ 22 (d := d_times) rfl
  exact ⟨_, fd, F, FunD.bindsN F (ps := ["amount", "top", "bottom"]) (fun _ _ _ _ _ _ us hl => match us, hl with | [_, _, _], _ => rfl), FunD.bindsA F (ps := ["amount", "top", "bottom"]) (fun _ _ _ _ _ _ us hl => match us, hl with | [_, _, _], _ => rfl), T.g_times⟩
theorem fd_sign_of {K : PySem.W.Frag} {mg : Str → Option Value} (T : Tx K mg) : Ly.Def_ K mg "sign_of" s_sign_of ["amount"] := by
  obtain ⟨fd, F⟩ := T.says.def_ 23 (d := d_sign_of) rfl
  exact ⟨_, fd, F, FunD.bindsN F (ps := ["amount"]) (fun _ _ _ _ _ _ us hl => match us, hl with | [_], _ => rfl), FunD.bindsA F (ps := ["amount"]) (fun _ _ _ _ _ _ us hl => match us, hl with | [_], _ => rfl), T.g_sign_of⟩
theorem fd_steps_of {K : PySem.W.Frag} {mg : Str → Option Value} (T : Tx K mg) : Ly.Def_ K mg "steps_of" s_steps_of ["amount", "k"] := by
  obtain ⟨fd, F⟩ := T.says.def_ 24 (d := d_steps_of) rfl
  exact ⟨_, fd, F, FunD.bindsN F (ps := ["amount", "k"]) (fun _ _ _ _ _ _ us hl => match us, hl with | [_, _], _ => rfl), FunD.bindsA F (ps := ["amount", "k"]) (fun _ _ _ _ _ _ us hl => match us, hl with | [_, _], _ => rfl), T.g_steps_of⟩
theorem fd_greatest_power {K : PySem.W.Frag} {mg : Str → Option Value} (T : Tx K mg) : Ly.Def_ K mg "greatest_power" s_greatest_power ["above", "below"] := by
  obtain ⟨fd, F⟩ := T.says.def_ 25 (d := d_greatest_power) rfl
  exact ⟨_, fd, F, FunD.bindsN F (ps := ["above", "below"]) (fun _ _ _ _ _ _ us hl => match us, hl with | [_, _], _ => rfl), FunD.bindsA F (ps := ["above", "below"]) (fun _ _ _ _ _ _ us hl => match us, hl with | [_, _], _ => rfl), T.g_greatest_power⟩
theorem fd_L_deck {K : PySem.W.Frag} {mg : Str → Option Value} (T : Tx K mg) : Ly.Def_ K mg "_law_deck" s_L_deck ["_law_script"] := by
  obtain ⟨fd, F⟩ := T.says.def_ 26 (d := d_L_deck) rfl
  exact ⟨_, fd, F, FunD.bindsN F (ps := ["_law_script"]) (fun _ _ _ _ _ _ us hl => match us, hl with | [_], _ => rfl), FunD.bindsA F (ps := ["_law_script"]) (fun _ _ _ _ _ _ us hl => match us, hl with | [_], _ => rfl), T.g_L_deck⟩
theorem fd_L_draw {K : PySem.W.Frag} {mg : Str → Option Value} (T : Tx K mg) : Ly.Def_ K mg "_law_draw" s_L_draw ["_law_deck_here", "_law_many"] := by
  obtain ⟨fd, F⟩ := T.says.def_ 27 (d := d_L_draw) rfl
  exact ⟨_, fd, F, FunD.bindsN F (ps := ["_law_deck_here", "_law_many"]) (fun _ _ _ _ _ _ us hl => match us, hl with | [_, _], _ => rfl), FunD.bindsA F (ps := ["_law_deck_here", "_law_many"]) (fun _ _ _ _ _ _ us hl => match us, hl with | [_, _], _ => rfl), T.g_L_draw⟩
theorem fd_L_pick {K : PySem.W.Frag} {mg : Str → Option Value} (T : Tx K mg) : Ly.Def_ K mg "_law_pick" s_L_pick ["_law_deck_here", "_law_some"] := by
  obtain ⟨fd, F⟩ := T.says.def_ 28 (d := d_L_pick) rfl
  exact ⟨_, fd, F, FunD.bindsN F (ps := ["_law_deck_here", "_law_some"]) (fun _ _ _ _ _ _ us hl => match us, hl with | [_, _], _ => rfl), FunD.bindsA F (ps := ["_law_deck_here", "_law_some"]) (fun _ _ _ _ _ _ us hl => match us, hl with | [_, _], _ => rfl), T.g_L_pick⟩
theorem fd_L_gcd {K : PySem.W.Frag} {mg : Str → Option Value} (T : Tx K mg) : Ly.Def_ K mg "_law_gcd" s_L_gcd ["_law_a", "_law_b"] := by
  obtain ⟨fd, F⟩ := T.says.def_ 29 (d := d_L_gcd) rfl
  exact ⟨_, fd, F, FunD.bindsN F (ps := ["_law_a", "_law_b"]) (fun _ _ _ _ _ _ us hl => match us, hl with | [_, _], _ => rfl), FunD.bindsA F (ps := ["_law_a", "_law_b"]) (fun _ _ _ _ _ _ us hl => match us, hl with | [_, _], _ => rfl), T.g_L_gcd⟩
theorem fd_L_power {K : PySem.W.Frag} {mg : Str → Option Value} (T : Tx K mg) : Ly.Def_ K mg "_law_power" s_L_power ["_law_base", "_law_exponent"] := by
  obtain ⟨fd, F⟩ := T.says.def_ 30 (d := d_L_power) rfl
  exact ⟨_, fd, F, FunD.bindsN F (ps := ["_law_base", "_law_exponent"]) (fun _ _ _ _ _ _ us hl => match us, hl with | [_, _], _ => rfl), FunD.bindsA F (ps := ["_law_base", "_law_exponent"]) (fun _ _ _ _ _ _ us hl => match us, hl with | [_, _], _ => rfl), T.g_L_power⟩
theorem fd_L_is_integer {K : PySem.W.Frag} {mg : Str → Option Value} (T : Tx K mg) : Ly.Def_ K mg "_law_is_integer" s_L_is_integer ["_law_thing"] := by
  obtain ⟨fd, F⟩ := T.says.def_ 31 (d := d_L_is_integer) rfl
  exact ⟨_, fd, F, FunD.bindsN F (ps := ["_law_thing"]) (fun _ _ _ _ _ _ us hl => match us, hl with | [_], _ => rfl), FunD.bindsA F (ps := ["_law_thing"]) (fun _ _ _ _ _ _ us hl => match us, hl with | [_], _ => rfl), T.g_L_is_integer⟩
theorem fd_L_is_prime {K : PySem.W.Frag} {mg : Str → Option Value} (T : Tx K mg) : Ly.Def_ K mg "_law_is_prime" s_L_is_prime ["_law_p"] := by
  obtain ⟨fd, F⟩ := T.says.def_ 32 (d := d_L_is_prime) rfl
  exact ⟨_, fd, F, FunD.bindsN F (ps := ["_law_p"]) (fun _ _ _ _ _ _ us hl => match us, hl with | [_], _ => rfl), FunD.bindsA F (ps := ["_law_p"]) (fun _ _ _ _ _ _ us hl => match us, hl with | [_], _ => rfl), T.g_L_is_prime⟩
theorem fd_L_is_own_amount {K : PySem.W.Frag} {mg : Str → Option Value} (T : Tx K mg) : Ly.Def_ K mg "_law_is_own_amount" s_L_is_own_amount ["_law_thing"] := by
  obtain ⟨fd, F⟩ := T.says.def_ 33 (d := d_L_is_own_amount) rfl
  exact ⟨_, fd, F, FunD.bindsN F (ps := ["_law_thing"]) (fun _ _ _ _ _ _ us hl => match us, hl with | [_], _ => rfl), FunD.bindsA F (ps := ["_law_thing"]) (fun _ _ _ _ _ _ us hl => match us, hl with | [_], _ => rfl), T.g_L_is_own_amount⟩
theorem fd_L_sides {K : PySem.W.Frag} {mg : Str → Option Value} (T : Tx K mg) : Ly.Def_ K mg "_law_sides" s_L_sides ["_law_amount"] := by
  obtain ⟨fd, F⟩ := T.says.def_ 34 (d := d_L_sides) rfl
  exact ⟨_, fd, F, FunD.bindsN F (ps := ["_law_amount"]) (fun _ _ _ _ _ _ us hl => match us, hl with | [_], _ => rfl), FunD.bindsA F (ps := ["_law_amount"]) (fun _ _ _ _ _ _ us hl => match us, hl with | [_], _ => rfl), T.g_L_sides⟩
theorem fd_L_stands {K : PySem.W.Frag} {mg : Str → Option Value} (T : Tx K mg) : Ly.Def_ K mg "_law_stands" s_L_stands ["_law_amount", "_law_many", "_law_top", "_law_bottom"] := by
  obtain ⟨fd, F⟩ := T.says.def_ 35 (d := d_L_stands) rfl
  exact ⟨_, fd, F, FunD.bindsN F (ps := ["_law_amount", "_law_many", "_law_top", "_law_bottom"]) (fun _ _ _ _ _ _ us hl => match us, hl with | [_, _, _, _], _ => rfl), FunD.bindsA F (ps := ["_law_amount", "_law_many", "_law_top", "_law_bottom"]) (fun _ _ _ _ _ _ us hl => match us, hl with | [_, _, _, _], _ => rfl), T.g_L_stands⟩
theorem fd_L_whole {K : PySem.W.Frag} {mg : Str → Option Value} (T : Tx K mg) : Ly.Def_ K mg "_law_whole" s_L_whole ["_law_counts"] := by
  obtain ⟨fd, F⟩ := T.says.def_ 36 (d := d_L_whole) rfl
  exact ⟨_, fd, F, FunD.bindsN F (ps := ["_law_counts"]) (fun _ _ _ _ _ _ us hl => match us, hl with | [_], _ => rfl), FunD.bindsA F (ps := ["_law_counts"]) (fun _ _ _ _ _ _ us hl => match us, hl with | [_], _ => rfl), T.g_L_whole⟩
theorem fd_L_is_near_enough {K : PySem.W.Frag} {mg : Str → Option Value} (T : Tx K mg) : Ly.Def_ K mg "_law_is_near_enough" s_L_is_near_enough ["_law_one", "_law_other"] := by
  obtain ⟨fd, F⟩ := T.says.def_ 37 (d := d_L_is_near_enough) rfl
  exact ⟨_, fd, F, FunD.bindsN F (ps := ["_law_one", "_law_other"]) (fun _ _ _ _ _ _ us hl => match us, hl with | [_, _], _ => rfl), FunD.bindsA F (ps := ["_law_one", "_law_other"]) (fun _ _ _ _ _ _ us hl => match us, hl with | [_, _], _ => rfl), T.g_L_is_near_enough⟩
theorem fd_L_drawn {K : PySem.W.Frag} {mg : Str → Option Value} (T : Tx K mg) : Ly.Def_ K mg "_law_drawn" s_L_drawn ["_law_deck_here"] := by
  obtain ⟨fd, F⟩ := T.says.def_ 38 (d := d_L_drawn) rfl
  exact ⟨_, fd, F, FunD.bindsN F (ps := ["_law_deck_here"]) (fun _ _ _ _ _ _ us hl => match us, hl with | [_], _ => rfl), FunD.bindsA F (ps := ["_law_deck_here"]) (fun _ _ _ _ _ _ us hl => match us, hl with | [_], _ => rfl), T.g_L_drawn⟩
theorem fd_L_is_sum {K : PySem.W.Frag} {mg : Str → Option Value} (T : Tx K mg) : Ly.Def_ K mg "_law_is_sum" s_L_is_sum ["_law_one", "_law_other", "_law_both", "_law_sign"] := by
  obtain ⟨fd, F⟩ := T.says.def_ 39 (d := d_L_is_sum) rfl
  exact ⟨_, fd, F, FunD.bindsN F (ps := ["_law_one", "_law_other", "_law_both", "_law_sign"]) (fun _ _ _ _ _ _ us hl => match us, hl with | [_, _, _, _], _ => rfl), FunD.bindsA F (ps := ["_law_one", "_law_other", "_law_both", "_law_sign"]) (fun _ _ _ _ _ _ us hl => match us, hl with | [_, _, _, _], _ => rfl), T.g_L_is_sum⟩
theorem fd_L_order {K : PySem.W.Frag} {mg : Str → Option Value} (T : Tx K mg) : Ly.Def_ K mg "_law_order" s_L_order ["_law_one", "_law_other"] := by
  obtain ⟨fd, F⟩ := T.says.def_ 40 (d := d_L_order) rfl
  exact ⟨_, fd, F, FunD.bindsN F (ps := ["_law_one", "_law_other"]) (fun _ _ _ _ _ _ us hl => match us, hl with | [_, _], _ => rfl), FunD.bindsA F (ps := ["_law_one", "_law_other"]) (fun _ _ _ _ _ _ us hl => match us, hl with | [_, _], _ => rfl), T.g_L_order⟩
theorem fd_L_is_two_right {K : PySem.W.Frag} {mg : Str → Option Value} (T : Tx K mg) : Ly.Def_ K mg "_law_is_two_right" s_L_is_two_right ["_law_one", "_law_other"] := by
  obtain ⟨fd, F⟩ := T.says.def_ 41 (d := d_L_is_two_right) rfl
  exact ⟨_, fd, F, FunD.bindsN F (ps := ["_law_one", "_law_other"]) (fun _ _ _ _ _ _ us hl => match us, hl with | [_, _], _ => rfl), FunD.bindsA F (ps := ["_law_one", "_law_other"]) (fun _ _ _ _ _ _ us hl => match us, hl with | [_, _], _ => rfl), T.g_L_is_two_right⟩
theorem fd_L_is_multiple_right {K : PySem.W.Frag} {mg : Str → Option Value} (T : Tx K mg) : Ly.Def_ K mg "_law_is_multiple_right" s_L_is_multiple_right ["_law_deck_here", "_law_one", "_law_other"] := by
  obtain ⟨fd, F⟩ := T.says.def_ 42 (d := d_L_is_multiple_right) rfl
  exact ⟨_, fd, F, FunD.bindsN F (ps := ["_law_deck_here", "_law_one", "_law_other"]) (fun _ _ _ _ _ _ us hl => match us, hl with | [_, _, _], _ => rfl), FunD.bindsA F (ps := ["_law_deck_here", "_law_one", "_law_other"]) (fun _ _ _ _ _ _ us hl => match us, hl with | [_, _, _], _ => rfl), T.g_L_is_multiple_right⟩
theorem fd_L_are_logarithms_right {K : PySem.W.Frag} {mg : Str → Option Value} (T : Tx K mg) : Ly.Def_ K mg "_law_are_logarithms_right" s_L_are_logarithms_right ["_law_deck_here"] := by
  obtain ⟨fd, F⟩ := T.says.def_ 43 (d := d_L_are_logarithms_right) rfl
  exact ⟨_, fd, F, FunD.bindsN F (ps := ["_law_deck_here"]) (fun _ _ _ _ _ _ us hl => match us, hl with | [_], _ => rfl), FunD.bindsA F (ps := ["_law_deck_here"]) (fun _ _ _ _ _ _ us hl => match us, hl with | [_], _ => rfl), T.g_L_are_logarithms_right⟩
theorem fd_law {K : PySem.W.Frag} {mg : Str → Option Value} (T : Tx K mg) : Ly.Def_ K mg "law" s_law ["_law_script"] := by
  obtain ⟨fd, F⟩ := T.says.def_ 44 (d := d_law) rfl
  exact ⟨_, fd, F, FunD.bindsN F (ps := ["_law_script"]) (fun _ _ _ _ _ _ us hl => match us, hl with | [_], _ => rfl), FunD.bindsA F (ps := ["_law_script"]) (fun _ _ _ _ _ _ us hl => match us, hl with | [_], _ => rfl), T.g_law⟩
end K02

namespace K02
open PySem PySem.Spec PyProof.Rows L2 Ly
section
variable {P : Program} {w : World} {K : PySem.W.Frag} {mg : Str → Option Value} {base : Heap}
/-! power -/
theorem pow_bits {b : Int} {n : Nat} (h : b.natAbs < 2 ^ n) (j : Nat) : (b ^ j).natAbs < 2 ^ (n * j + 1) := by
  rw [Int.natAbs_pow, Nat.pow_succ, Nat.pow_mul]
  have h2 : b.natAbs ^ j ≤ (2 ^ n) ^ j := Nat.pow_le_pow_left (Nat.le_of_lt h) j
  have h3 : 0 < (2 ^ n) ^ j := Nat.pow_pos (Nat.two_pow_pos n)
  omega
def spPower : Sp := fun vs H Q _ => ∃ (b : Int) (e n : Nat), vs = [.int b, .int e] ∧ b.natAbs < 2 ^ n ∧ n * (2 * e) ≤ 400000 ∧ Q (.int (b ^ e)) H
theorem ca_power (T : Tx K mg) : Ca P w K mg base 1 "power" s_power ["base", "exponent"] spPower := by
  refine Ca.of (fd_power T) sc_power ?_ ?_
  · rintro vs H Q E ⟨b, e, n, rfl, _⟩; rfl
  · rintro f cdv A out s H vs Q E hr ⟨b, e, n, rfl, hb, hn, q⟩
    refine ⟨_, pss_cons (ps_set (i := 2) sc_power.nd rfl (.inl rfl) pe_int)
      (pss_cons (ps_while PassesOwn.never (pt_cmpR op_gt (pv 1) pe_int (nomark _))
        (pss_cons (ps_if (pt_cmpR op_eq (pe_op op_mod (pv 1) pe_int) pe_int (nomark _))
            (pss_one (ps_set (i := 2) sc_power.nd rfl (.inl rfl) (pe_op op_mulW (pv 2) (pv 0)))) pss_nil)
        (pss_cons (ps_set (i := 0) sc_power.nd rfl (.inl rfl) (pe_op op_mulW (pv 0) (pv 0)))
        (pss_one (ps_set (i := 1) sc_power.nd rfl (.inl rfl) (pe_op op_fdiv (pv 1) pe_int))))))
      (pss_one (ps_ret (pv 2)))), ?_⟩
    refine while_by (fun σ H' => ∃ (m x : Nat), σ = [some (.int (b ^ m)), some (.int x), some (.int (b ^ (e - m * x)))] ∧ m * x ≤ e ∧ (x ≠ 0 → 0 < m) ∧ H' = H)
      (fun σ _ => match σ with | [_, some (.int x), _] => x.toNat | _ => 0) ?_ ?_ ?_
    · refine ⟨1, e, ?_, by omega, fun _ => Nat.one_pos, rfl⟩
      show [some (V.int b), some (V.int e), some (V.int 1)] = _
      rw [Int.pow_succ, Int.pow_zero, Int.one_mul, Nat.one_mul, Nat.sub_self, Int.pow_zero]
    · rintro σ H' ⟨m, x, rfl, hm, hx, rfl⟩
      refine ⟨_, rfl, _, _, rfl, rfl, _, rfl, ite2 (fun c => ?_) (fun c => ?_)⟩
      · have hx1 : x ≠ 0 := by have := of_decide_eq_true c; omega
        have hm1 := hx hx1
        have hmx : m ≤ m * x := Nat.le_mul_of_pos_right m (Nat.pos_of_ne_zero hx1)
        have szm : n * m + 1 ≤ 400001 := by
          have : n * m ≤ n * (2 * e) := Nat.mul_le_mul_left n (by omega)
          omega
        have szr : n * (e - m * x) + 1 ≤ 400001 := by
          have : n * (e - m * x) ≤ n * (2 * e) := Nat.mul_le_mul_left n (by omega)
          omega
        have half : (x : Int) / 2 = ((x / 2 : Nat) : Int) := by omega
        have sq : b ^ m * b ^ m = b ^ (2 * m) := by rw [← Int.pow_add, Nat.two_mul]
        have next : ∀ r : Int, r = b ^ (e - 2 * m * (x / 2)) →
            ∃ (m' x' : Nat), [some (V.int (b ^ m * b ^ m)), some (V.int ((x : Int) / 2)), some (V.int r)] = [some (.int (b ^ m')), some (.int x'), some (.int (b ^ (e - m' * x')))] ∧ m' * x' ≤ e ∧ (x' ≠ 0 → 0 < m') ∧ H' = H' := by
          intro r hr
          refine ⟨2 * m, x / 2, by rw [sq, half, hr], ?_, fun _ => by omega, rfl⟩
          have : 2 * m * (x / 2) ≤ m * x := by
            have h2 : 2 * (x / 2) ≤ x := Nat.mul_div_le x 2
            calc 2 * m * (x / 2) = m * (2 * (x / 2)) := by rw [Nat.mul_comm 2 m, Nat.mul_assoc]
              _ ≤ m * x := Nat.mul_le_mul_left m h2
          omega
        have meas : ((x : Int) / 2).toNat < ((x : Int)).toNat := by omega
        refine ⟨_, rfl, _, _, rfl, rfl, (by show (0 : Int) < 2; decide), rfl, _, rfl, ite2 (fun c => ?_) (fun c => ?_)⟩
        · have odd : x % 2 = 1 := by
            have := V.int.inj (of_decide_eq_true c)
            omega
          refine ⟨_, rfl, _, rfl, _, _, rfl, rfl, wide_mul (pow_bits hb _) (pow_bits hb _) (by omega) (by omega) (by omega), ?_⟩
          refine ⟨_, rfl, _, rfl, _, _, rfl, rfl, wide_mul (pow_bits hb _) (pow_bits hb _) (by omega) (by omega) (by omega), ?_⟩
          refine ⟨_, rfl, _, _, rfl, rfl, ⟨by decide, by decide⟩, next _ ?_, meas⟩
          rw [← Int.pow_add]
          congr 1
          have : m * x = 2 * m * (x / 2) + m := by
            have h3 : x = 2 * (x / 2) + 1 := by omega
            calc m * x = m * (2 * (x / 2) + 1) := by rw [← h3]
              _ = 2 * m * (x / 2) + m := by rw [Nat.mul_add, Nat.mul_one, ← Nat.mul_assoc, Nat.mul_comm m 2]
          omega
        · have even : x % 2 = 0 := by
            have : ¬ (V.int ((x : Int) % 2) = V.int 1) := fun z => c (decide_eq_true z)
            have : ¬ ((x : Int) % 2 = 1) := fun z => this (by rw [z])
            omega
          refine ⟨_, rfl, _, rfl, _, _, rfl, rfl, wide_mul (pow_bits hb _) (pow_bits hb _) (by omega) (by omega) (by omega), ?_⟩
          refine ⟨_, rfl, _, _, rfl, rfl, ⟨by decide, by decide⟩, next _ ?_, meas⟩
          congr 1
          have : m * x = 2 * m * (x / 2) := by
            have h3 : x = 2 * (x / 2) := by omega
            calc m * x = m * (2 * (x / 2)) := by rw [← h3]
              _ = 2 * m * (x / 2) := by rw [← Nat.mul_assoc, Nat.mul_comm m 2]
          omega
      · have hx0 : x = 0 := by
          have : ¬ ((0 : Int) < x) := fun z => c (decide_eq_true z)
          omega
        subst hx0
        exact ⟨_, rfl, q⟩
    · rintro σ H1 Q1 Q2 h ⟨v, e1, i, j, e2, e3, z, e4, e5⟩
      exact ⟨v, e1, i, j, e2, e3, z, e4, h _ _ e5⟩
end
end K02

namespace K02
open PySem PySem.Spec PyProof.Rows L2 Ly
section
variable {P : Program} {w : World} {K : PySem.W.Frag} {mg : Str → Option Value} {base : Heap}
/-! kinds -/
def spIsInteger (K : PySem.W.Frag) : Sp := fun vs H Q _ => ∃ (v : V) (n : String) (b1 b2 : Bool), vs = [v] ∧ TyX K H v (.type n) ∧ kitB n "int" = some b1 ∧ kitB n "bool" = some b2 ∧ Q (.bl (b1 && !b2)) H
theorem ca_is_integer (T : Tx K mg) : Ca P w K mg base 1 "is_integer" s_is_integer ["thing"] (spIsInteger K) := by
  refine Ca.of (fd_is_integer T) sc_is_integer ?_ ?_
  · rintro vs H Q E ⟨v, n, b1, b2, rfl, _⟩; rfl
  · rintro f cdv A out s H vs Q E hr ⟨v, n, b1, b2, rfl, ty, k1, k2, q⟩
    refine ⟨_, (pss_one (ps_ret (pe_and (pe_callB call_isi (by rfl) T.f_isinstance (by decide +kernel) (pa_cons (pv 0) (pa_cons (pe_bltn (v := .ty "int") (by rfl) T.f_int (by decide +kernel) rfl) pa_nil))) (pe_one (pe_not (pe_callB call_isi (by rfl) T.f_isinstance (by decide +kernel) (pa_cons (pv 0) (pa_cons (pe_bltn (v := .ty "bool") (by rfl) T.f_bool (by decide +kernel) rfl) pa_nil)))))))), ?_⟩
    refine ⟨v, rfl, v, .ty "int", _, _, b1, rfl, .ty "int", ty, kit_ty k1, b1, rfl, ?_⟩
    cases b1 with
    | false => exact iteF (by simpa using q)
    | true => exact iteT ⟨v, rfl, v, .ty "bool", _, _, b2, rfl, .ty "bool", ty, kit_ty k2, b2, rfl, by simpa using q⟩
theorem ca_L_is_integer (T : Tx K mg) : Ca P w K mg base 1 "_law_is_integer" s_L_is_integer ["_law_thing"] (spIsInteger K) := by
  refine Ca.of (fd_L_is_integer T) sc_L_is_integer ?_ ?_
  · rintro vs H Q E ⟨v, n, b1, b2, rfl, _⟩; rfl
  · rintro f cdv A out s H vs Q E hr ⟨v, n, b1, b2, rfl, ty, k1, k2, q⟩
    refine ⟨_, (pss_one (ps_ret (pe_and (pe_callB call_isi (by rfl) T.f_isinstance (by decide +kernel) (pa_cons (pv 0) (pa_cons (pe_bltn (v := .ty "int") (by rfl) T.f_int (by decide +kernel) rfl) pa_nil))) (pe_one (pe_not (pe_callB call_isi (by rfl) T.f_isinstance (by decide +kernel) (pa_cons (pv 0) (pa_cons (pe_bltn (v := .ty "bool") (by rfl) T.f_bool (by decide +kernel) rfl) pa_nil)))))))), ?_⟩
    refine ⟨v, rfl, v, .ty "int", _, _, b1, rfl, .ty "int", ty, kit_ty k1, b1, rfl, ?_⟩
    cases b1 with
    | false => exact iteF (by simpa using q)
    | true => exact iteT ⟨v, rfl, v, .ty "bool", _, _, b2, rfl, .ty "bool", ty, kit_ty k2, b2, rfl, by simpa using q⟩
local macro_rules | `(tactic| walk_at "isint") => `(tactic| refine ⟨_, "int", true, false, rfl, tyx_int, by decide +kernel, by decide +kernel, ?_⟩)
/-- of an int alone -/
def spIntIn : Sp := fun vs H Q _ => ∃ (i lo hi : Int), vs = [.int i, .int lo, .int hi] ∧ Q (.bl (decide (lo ≤ i ∧ i ≤ hi))) H
theorem ca_is_integer_in (T : Tx K mg) : Ca P w K mg base 2 "is_integer_in" s_is_integer_in ["thing", "low", "high"] spIntIn := by
  have C_is_integer := ca_is_integer (P := P) (w := w) (base := base) T
  refine Ca.of (fd_is_integer_in T) sc_is_integer_in ?_ ?_
  · rintro vs H Q E ⟨i, lo, hi, rfl, _⟩; rfl
  · rintro f cdv A out s H vs Q E hr ⟨i, lo, hi, rfl, q⟩
    refine ⟨_, (pss_one (ps_ret (pe_and (pe_ca C_is_integer hr (pa_cons (pv 0) pa_nil)) (pe_one (pe_chain op_le op_le (pv 1) (pv 0) (pv 2)))))), ?_⟩
    refine ⟨_, rfl, ?_⟩
    walk_at "isint"
    refine ⟨true, rfl, iteT ⟨_, rfl, _, rfl, _, _, rfl, rfl, _, rfl, ite2 (fun c => ?_) (fun c => ?_)⟩⟩
    · refine ⟨_, rfl, _, _, rfl, rfl, ?_⟩
      have c' : lo ≤ i := of_decide_eq_true c
      have e : decide (i ≤ hi) = decide (lo ≤ i ∧ i ≤ hi) := by simp [c']
      rw [← e] at q; exact q
    · have c' : ¬ lo ≤ i := fun z => c (decide_eq_true z)
      have e : false = decide (lo ≤ i ∧ i ≤ hi) := by simp [c']
      rw [← e] at q; exact q
/-- of a tuple -/
def spTupleOf (K : PySem.W.Frag) : Sp := fun vs H Q _ => ∃ (a : Addr) (xs : List V) (n : Int), vs = [.ref a, .int n] ∧ SqT K H a xs ∧ Q (.bl (decide ((xs.length : Int) = n))) H
theorem ca_is_tuple_of (T : Tx K mg) : Ca P w K mg base 1 "is_tuple_of" s_is_tuple_of ["thing", "size"] (spTupleOf K) := by
  refine Ca.of (fd_is_tuple_of T) sc_is_tuple_of ?_ ?_
  · rintro vs H Q E ⟨a, xs, n, rfl, _⟩; rfl
  · rintro f cdv A out s H vs Q E hr ⟨a, xs, n, rfl, ht, q⟩
    refine ⟨_, (pss_one (ps_ret (pe_and (pe_callB call_isi (by rfl) T.f_isinstance (by decide +kernel) (pa_cons (pv 0) (pa_cons (pe_bltn (v := .ty "tuple") (by rfl) T.f_tuple (by decide +kernel) rfl) pa_nil))) (pe_one (pe_cmpR op_eq (pe_callB call_len_seq (by rfl) T.f_len (by decide +kernel) (pa_cons (pv 0) pa_nil)) (pv 1) (nomark _)))))), ?_⟩
    refine ⟨_, rfl, _, .ty "tuple", _, _, true, rfl, .ty "tuple", tyx_tup ht, kit_ty (by decide +kernel), true, rfl, iteT ?_⟩
    refine ⟨_, rfl, a, xs, rfl, .inr ht, _, rfl, rfl, ?_⟩
    have e : decide (V.int (xs.length : Int) = V.int n) = decide ((xs.length : Int) = n) := by
      by_cases h : (xs.length : Int) = n
      · rw [h]; simp
      · rw [decide_eq_false h, decide_eq_false (fun z => h (V.int.inj z))]
    rw [← e] at q; exact q
/-- all ints of a tuple within bounds -/
def spAreInts (K : PySem.W.Frag) : Sp := fun vs H Q _ => ∃ (a : Addr) (ns : List Int) (lo hi : Int), vs = [.ref a, .int lo, .int hi] ∧ SqT K H a (ns.map V.int) ∧ ns.length ≤ 1000 ∧
  ∀ H', Same H H' → Q (.bl (ns.all fun i => decide (lo ≤ i ∧ i ≤ hi))) H'
theorem ca_are_integers_in (T : Tx K mg) : Ca P w K mg base 3 "are_integers_in" s_are_integers_in ["thing", "low", "high"] (spAreInts K) := by
  have C_is_integer_in := ca_is_integer_in (P := P) (w := w) (base := base) T
  refine Ca.of (fd_are_integers_in T) sc_are_integers_in ?_ ?_
  · rintro vs H Q E ⟨a, ns, lo, hi, rfl, _⟩; rfl
  · rintro f cdv A out s H vs Q E hr ⟨a, ns, lo, hi, rfl, ht, hl, q⟩
    refine ⟨_, (pss_one (ps_ret (pe_and (pe_callB call_isi (by rfl) T.f_isinstance (by decide +kernel) (pa_cons (pv 0) (pa_cons (pe_bltn (v := .ty "tuple") (by rfl) T.f_tuple (by decide +kernel) rfl) pa_nil))) (pe_one (pe_callB (cr_all rfl) (by rfl) T.f_all (by decide +kernel) (pa_cons (pe_lc (own := [("item", 3)]) rfl sc_are_integers_in.nd (pi_tup (pv 0)) (blkOk_by (own := [("item", 3)]) (N := n_are_integers_in) (sc := (defScope s_are_integers_in)) (by decide +kernel)) (fun _ _ _ _ _ => (pg_name (i := 3) sc_are_integers_in.nd rfl (Or.inl rfl) (Or.inr rfl))) (fun _ _ _ _ _ => pts_nil) (fun _ _ _ _ _ => (pe_ca C_is_integer_in hr (pa_cons (pv 3) (pa_cons (pv 1) (pa_cons (pv 2) pa_nil)))))) pa_nil)))))), ?_⟩
    refine ⟨_, rfl, _, .ty "tuple", _, _, true, rfl, .ty "tuple", tyx_tup ht, kit_ty (by decide +kernel), true, rfl, iteT ?_⟩
    refine ⟨_, rfl, a, rfl, ⟨_, ht⟩, fun D nD => ?_⟩
    refine lc_tup (xs := ns.map V.int) (fun i H' => Same H H' ∧ H' D = some (.lst (((ns.map fun i => decide (lo ≤ i ∧ i ≤ hi)).take i).map V.bl))) ?_ ?_ ?_ ?_
    · exact ⟨same_new nD, upd_same⟩
    · rintro i H' _ ⟨sm, _⟩; exact SqT.same sm ht
    · rintro i x H' hx ⟨sm, hD⟩
      obtain ⟨n, hn, rfl⟩ : ∃ n, ns[i]? = some n ∧ x = V.int n := by
        rw [List.getElem?_map] at hx
        cases e : ns[i]? with
        | none => rw [e] at hx; cases hx
        | some n => rw [e] at hx; exact ⟨n, rfl, (Option.some.inj hx).symm⟩
      refine ⟨rfl, ?_⟩
      refine ⟨_, rfl, _, rfl, _, rfl, n, lo, hi, rfl, _, hD, ?_, same_write nD sm, ?_⟩
      · rw [List.length_map]
        refine small1000 (Nat.le_trans ?_ hl)
        rw [List.length_take, List.length_map]; omega
      · rw [upd_same, List.take_add_one, List.getElem?_map, hn, List.map_append]
        rfl
    · rintro H' ⟨sm, hD⟩
      refine ⟨D, _, rfl, .inl (.inl hD), ?_⟩
      have e : ((ns.map fun i => decide (lo ≤ i ∧ i ≤ hi)).take (ns.map V.int).length).all id = ns.all fun i => decide (lo ≤ i ∧ i ≤ hi) := by
        rw [List.take_of_length_le (by simp), List.all_map]; rfl
      have z := q H' sm
      rw [← e] at z; exact z
end
end K02

namespace K02
open PySem PySem.Spec PyProof.Rows L2 Ly Am
section
variable {P : Program} {w : World} {K : PySem.W.Frag} {mg : Str → Option Value} {base : Heap}
def spIsPrime : Sp := fun vs H Q _ => ∃ n : Nat, vs = [.int n] ∧ n < 2 ^ 40 ∧ ∀ b H', Same H H' → (b = true ↔ Pr n) → Q (.bl b) H'
theorem ca_is_prime (T : Tx K mg) : Ca P w K mg base 1 "is_prime" s_is_prime ["number"] spIsPrime := by
  refine Ca.of (fd_is_prime T) sc_is_prime ?_ ?_
  · rintro vs H Q E ⟨n, rfl, _⟩; rfl
  · rintro f cdv A out s H vs Q E hr ⟨n, rfl, hn, q⟩
    refine ⟨_, (pss_cons (ps_if (pt_cmpR op_lt (pv 0) pe_int (nomark _))
 (pss_one (ps_ret pe_bl))
 pss_nil)
 (pss_one (ps_ret (pe_callB (cr_all rfl) (by rfl) T.f_all (by decide +kernel) (pa_cons (pe_lc (own := [("divisor", 1)]) rfl sc_is_prime.nd (pi_range2 (by rfl) T.f_range (pa_cons pe_int (pa_cons (pe_op op_add (pe_callBfun cr_isqrt (by rfl) T.b_isqrt (pa_cons (pv 0) pa_nil)) pe_int) pa_nil))) (blkOk_by (own := [("divisor", 1)]) (N := n_is_prime) (sc := (defScope s_is_prime)) (by decide +kernel)) (fun _ _ _ _ _ => (pg_name (i := 1) sc_is_prime.nd rfl (Or.inl rfl) (Or.inr rfl))) (fun _ _ _ _ _ => pts_nil) (fun _ _ _ _ _ => (pe_cmpR op_ne (pe_op op_mod (pv 0) (pv 1)) pe_int (nomark _)))) pa_nil))))), ?_⟩
    refine ⟨_, rfl, _, _, rfl, rfl, _, rfl, ite2 (fun c => ?_) (fun c => ?_)⟩
    · have c' : (n : Int) < 2 := of_decide_eq_true c
      exact q false H (Same.refl H) ⟨(fun z => nomatch z), fun z => by have := z.1; omega⟩
    · have c' : 2 ≤ n := by
        have : ¬ ((n : Int) < 2) := fun z => c (decide_eq_true z)
        omega
      obtain ⟨r1, r2⟩ := PySem.Float64.isqrt_spec n
      have hr40 : PySem.Float64.isqrt n < 2 ^ 40 := by
        have : PySem.Float64.isqrt n ≤ PySem.Float64.isqrt n * PySem.Float64.isqrt n := Nat.le_mul_self _
        omega
      refine ⟨_, rfl, _, rfl, by omega, by omega, _, _, rfl, rfl, ?_⟩
      have hr20 : PySem.Float64.isqrt n < 2 ^ 20 := by
        apply Nat.lt_of_not_le
        intro z
        have := Nat.mul_le_mul z z
        omega
      have hr40' : PySem.Float64.isqrt ((n : Int).toNat) < 2 ^ 40 := hr40
      refine ⟨2, _, rfl, ⟨by decide, by decide, by omega, by omega⟩, fun D nD => ?_⟩
      refine lc_range (lo := 2) (n := ((((PySem.Float64.isqrt n : Nat) : Int) + 1) - 2).toNat) (fun i H' => Same H H' ∧ H' D = some (.lst (((List.range i).map fun j => !decide (n % (2 + j) = 0)).map V.bl))) ?_ ?_ ?_
      · exact ⟨same_new nD, upd_same⟩
      · rintro i H' hi ⟨sm, hD⟩
        refine ⟨rfl, ?_⟩
        have e2 : (2 + (i : Int)) = ((2 + i : Nat) : Int) := by omega
        refine ⟨_, rfl, _, rfl, _, _, rfl, rfl, (by show (0 : Int) < 2 + (i : Int); omega), rfl, _, hD, ?_, same_write nD sm, ?_⟩
        · rw [List.length_map, List.length_map, List.length_range]
          rw [sizeLine_eq]; omega
        · rw [upd_same, List.range_succ, List.map_append, List.map_append]
          have e3 : (!decide (V.int ((n : Int) % (2 + (i : Int))) = V.int 0)) = !decide (n % (2 + i) = 0) := by
            congr 1
            apply decide_eq_decide.mpr
            constructor
            · intro z
              have := V.int.inj z
              rw [e2] at this
              omega
            · intro z
              rw [e2]
              congr 1
              omega
          rw [e3]
          rfl
      · rintro H' ⟨sm, hD⟩
        refine ⟨D, _, rfl, .inl (.inl hD), ?_⟩
        refine q _ H' sm ?_
        rw [← pr_root c' r1 r2, List.all_eq_true]
        constructor
        · intro h d hd hr2
          have := h (!decide (n % (2 + (d - 2)) = 0)) (List.mem_map.mpr ⟨d - 2, List.mem_range.mpr (by omega), rfl⟩)
          rw [show 2 + (d - 2) = d by omega] at this
          simpa using this
        · intro h b hb
          obtain ⟨j, hj, rfl⟩ := List.mem_map.mp hb
          have := List.mem_range.mp hj
          simpa using h (2 + j) (by omega) (by omega)
end
end K02

namespace K02
open PySem PySem.Spec PyProof.Rows L2 Ly Am
/-- prime powers as a dict's entries -/
def zz (L : List (Nat × Nat)) : List (Int × Int) := L.map fun q => ((q.1 : Int), (q.2 : Int))
section
variable {P : Program} {w : World} {K : PySem.W.Frag} {mg : Str → Option Value} {base : Heap}
def spPrimePowers : Sp := fun vs H Q _ => ∃ n : Nat, vs = [.int n] ∧ 0 < n ∧ n < 2 ^ 40 ∧ ∀ D L H', H D = none → Same H H' → H' D = some (.dK (kd (zz L))) → PF n L → Q (.ref D) H'
/-- what holds of the rest m, ahead of the divisor d, the powers so far -/
structure PpI (n m d : Nat) (L : List (Nat × Nat)) : Prop where
  m0 : 0 < m
  d2 : 2 ≤ d
  asc : L.Pairwise (fun a b => a.1 < b.1)
  pr : ∀ q ∈ L, Pr q.1 ∧ 0 < q.2
  low : ∀ q ∈ L, q.1 < d
  rest : ∀ e, 2 ≤ e → e < d → m % e ≠ 0
  prod : pprod L * m = n
/-- within the inner loop: c powers of d have been taken -/
structure PpJ (n m d c : Nat) (L : List (Nat × Nat)) : Prop where
  m0 : 0 < m
  d2 : 2 ≤ d
  asc : L.Pairwise (fun a b => a.1 < b.1)
  pr : ∀ q ∈ L, Pr q.1 ∧ 0 < q.2
  low : ∀ q ∈ L, q.1 < d
  rest : ∀ e, 2 ≤ e → e < d → m % e ≠ 0
  prod : pprod L * d ^ c * m = n
  dp : c ≠ 0 → Pr d
def ppList (L : List (Nat × Nat)) (d c : Nat) : List (Nat × Nat) := if c = 0 then L else L ++ [(d, c)]
theorem pr_of_least {m d : Nat} (d2 : 2 ≤ d) (rest : ∀ e, 2 ≤ e → e < d → m % e ≠ 0) (h : m % d = 0) (m0 : 0 < m) : Pr d := by
  refine ⟨d2, fun e he => ?_⟩
  by_cases e1 : e = 1
  · exact .inl e1
  by_cases ed : e = d
  · exact .inr ed
  exfalso
  have hle := Nat.le_of_dvd (by omega) he
  have e0 : e ≠ 0 := by rintro rfl; have := Nat.zero_dvd.mp he; omega
  exact rest e (by omega) (by omega) (Nat.mod_eq_zero_of_dvd (Nat.dvd_trans he (Nat.dvd_of_mod_eq_zero h)))
theorem mod_of_div {m d e : Nat} (h : m % d = 0) (z : m / d % e = 0) : m % e = 0 := by
  obtain ⟨c, rfl⟩ := Nat.dvd_of_mod_eq_zero h
  by_cases d0 : d = 0
  · subst d0; simp
  · rw [Nat.mul_div_cancel_left c (by omega)] at z
    exact Nat.mod_eq_zero_of_dvd (Nat.dvd_trans (Nat.dvd_of_mod_eq_zero z) (Nat.dvd_mul_left c d))
theorem PpJ.step {n m d c : Nat} {L : List (Nat × Nat)} (h : PpJ n m d c L) (z : m % d = 0) : PpJ n (m / d) d (c + 1) L ∧ m / d < m := by
  obtain ⟨e, he⟩ := Nat.dvd_of_mod_eq_zero z
  have hd := h.d2
  have hm := h.m0
  have e1 : m / d = e := by rw [he]; exact Nat.mul_div_cancel_left e (by omega)
  have e0 : 0 < e := by
    apply Nat.pos_of_ne_zero
    rintro rfl
    omega
  have lt : m / d < m := Nat.div_lt_self hm (by omega)
  refine ⟨⟨by rw [e1]; exact e0, h.d2, h.asc, h.pr, h.low, fun x h1 h2 q => h.rest x h1 h2 (mod_of_div z q), ?_, fun _ => pr_of_least h.d2 h.rest z hm⟩, lt⟩
  rw [← h.prod, e1, he, Nat.pow_succ]
  simp only [Nat.mul_assoc]
theorem PpJ.done {n m d c : Nat} {L : List (Nat × Nat)} (h : PpJ n m d c L) (z : m % d ≠ 0) : PpI n m (d + 1) (ppList L d c) := by
  unfold ppList
  have rest : ∀ e, 2 ≤ e → e < d + 1 → m % e ≠ 0 := fun e h1 h2 => by
    by_cases q : e = d
    · rw [q]; exact z
    · exact h.rest e h1 (by omega)
  split
  · rename_i c0
    subst c0
    exact ⟨h.m0, by have := h.d2; omega, h.asc, h.pr, fun q hq => Nat.lt_succ_of_lt (h.low q hq), rest, by have := h.prod; rwa [Nat.pow_zero, Nat.mul_one] at this⟩
  · rename_i c0
    refine ⟨h.m0, by have := h.d2; omega, ?_, ?_, ?_, rest, ?_⟩
    · rw [List.pairwise_append]
      refine ⟨h.asc, by simp, ?_⟩
      intro a ha b hb
      have : b = (d, c) := by simpa using hb
      subst this
      exact h.low a ha
    · intro q hq
      rcases List.mem_append.mp hq with hq | hq
      · exact h.pr q hq
      · have : q = (d, c) := by simpa using hq
        subst this
        exact ⟨h.dp c0, Nat.pos_of_ne_zero c0⟩
    · intro q hq
      rcases List.mem_append.mp hq with hq | hq
      · exact Nat.lt_succ_of_lt (h.low q hq)
      · have : q = (d, c) := by simpa using hq
        subst this
        exact Nat.lt_succ_self d
    · rw [pprod_append]
      show pprod L * (d ^ c * 1) * m = n
      rw [Nat.mul_one]; exact h.prod
theorem PpI.inner {n m d : Nat} {L : List (Nat × Nat)} (h : PpI n m d L) : PpJ n m d 0 L :=
  ⟨h.m0, h.d2, h.asc, h.pr, h.low, h.rest, by rw [Nat.pow_zero, Nat.mul_one]; exact h.prod, fun z => absurd rfl z⟩
theorem PpI.end1 {n m d : Nat} {L : List (Nat × Nat)} (h : PpI n m d L) (z : ¬ m > 1) : PF n L := by
  have : m = 1 := by have := h.m0; omega
  subst this
  exact ⟨h.asc, h.pr, by have := h.prod; rwa [Nat.mul_one] at this⟩
theorem PpI.end2 {n m d : Nat} {L : List (Nat × Nat)} (h : PpI n m d L) (z : m > 1) (hd : m < d * d) : PF n (L ++ [(m, 1)]) ∧ ∀ q ∈ L, q.1 < m := by
  have dm : d ≤ m := by
    apply Nat.le_of_not_lt
    intro q
    exact h.rest m (by omega) q (Nat.mod_self m)
  have pm : Pr m := by
    refine ⟨by omega, fun e he => ?_⟩
    obtain ⟨x, hx⟩ := he
    by_cases e1 : e = 1
    · exact .inl e1
    by_cases em : e = m
    · exact .inr em
    exfalso
    have e0 : e ≠ 0 := by rintro rfl; omega
    have x0 : x ≠ 0 := by rintro rfl; omega
    have x1 : x ≠ 1 := by rintro rfl; omega
    by_cases c1 : e < d
    · exact h.rest e (by omega) c1 (by rw [hx]; exact Nat.mul_mod_right e x)
    · by_cases c2 : x < d
      · exact h.rest x (by omega) c2 (by rw [hx, Nat.mul_comm]; exact Nat.mul_mod_right x e)
      · have := Nat.mul_le_mul (Nat.le_of_not_lt c1) (Nat.le_of_not_lt c2)
        omega
  have low : ∀ q ∈ L, q.1 < m := fun q hq => Nat.lt_of_lt_of_le (h.low q hq) dm
  refine ⟨⟨?_, ?_, ?_⟩, low⟩
  · rw [List.pairwise_append]
    refine ⟨h.asc, by simp, ?_⟩
    intro a ha b hb
    have : b = (m, 1) := by simpa using hb
    subst this
    exact low a ha
  · intro q hq
    rcases List.mem_append.mp hq with hq | hq
    · exact h.pr q hq
    · have : q = (m, 1) := by simpa using hq
      subst this
      exact ⟨pm, Nat.one_pos⟩
  · rw [pprod_append]
    show pprod L * (m ^ 1 * 1) = n
    rw [Nat.pow_one, Nat.mul_one]; exact h.prod
theorem zz_none {L : List (Nat × Nat)} {d : Nat} (h : ∀ q ∈ L, q.1 ≠ d) : (zz L).lookup (d : Int) = none := by
  rw [lookup_none_iff]
  intro q hq
  obtain ⟨p, hp, rfl⟩ := List.mem_map.mp hq
  intro z
  exact h p hp (by have : (p.1 : Int) = (d : Int) := z; omega)
theorem zz_snoc (L : List (Nat × Nat)) (d c : Nat) : zz L ++ [((d : Int), (c : Int))] = zz (L ++ [(d, c)]) := by
  unfold zz; rw [List.map_append]; rfl
/-- d[k] = d.get(k, 0) + 1 of the powers -/
theorem pp_put {L : List (Nat × Nat)} {d c : Nat} (h : ∀ q ∈ L, q.1 < d) : ip (zz (ppList L d c)) d (ig (zz (ppList L d c)) d + 1) = zz (ppList L d (c + 1)) := by
  have hn : (zz L).lookup (d : Int) = none := zz_none fun q hq => Nat.ne_of_lt (h q hq)
  unfold ppList
  rw [if_neg (Nat.succ_ne_zero c)]
  split
  · rename_i c0
    subst c0
    rw [ip_new hn, ← zz_snoc]
    unfold ig
    rw [hn]; rfl
  · rw [← zz_snoc, ← zz_snoc]
    have e1 : ig (zz L ++ [((d : Int), (c : Int))]) d = c := by
      unfold ig
      rw [lookup_append, hn]
      simp [List.lookup_cons]
    rw [e1]
    unfold ip
    rw [if_pos (by rw [List.any_append]; simp), List.map_append]
    congr 1
    · conv => rhs; rw [← List.map_id (zz L)]
      apply List.map_congr_left
      intro q hq
      rw [if_neg ((lookup_none_iff _ _).mp hn q hq)]; rfl
    · simp
theorem pp_bits {L : List (Nat × Nat)} (h : ∀ q ∈ L, Pr q.1 ∧ 0 < q.2) : 2 ^ L.length ≤ pprod L := by
  induction L with
  | nil => exact Nat.le_refl _
  | cons q r ih =>
    have hq := h q List.mem_cons_self
    have h1 : 2 ≤ q.1 ^ q.2 := by
      calc 2 ≤ q.1 := hq.1.1
        _ = q.1 ^ 1 := (Nat.pow_one _).symm
        _ ≤ q.1 ^ q.2 := Nat.pow_le_pow_right hq.1.pos hq.2
    rw [List.length_cons, Nat.pow_succ, Nat.mul_comm]
    exact Nat.mul_le_mul h1 (ih fun z hz => h z (List.mem_cons_of_mem _ hz))
theorem pp_len {L : List (Nat × Nat)} {n m : Nat} (h : ∀ q ∈ L, Pr q.1 ∧ 0 < q.2) (e : pprod L * m = n) (m0 : 0 < m) (hn : n < 2 ^ 40) : L.length < 40 := by
  have h1 := pp_bits h
  have h2 : pprod L ≤ n := by rw [← e]; exact Nat.le_mul_of_pos_right _ m0
  have h3 : 2 ^ L.length < 2 ^ 40 := by omega
  exact (Nat.pow_lt_pow_iff_right (a := 2) (by omega)).mp h3
theorem ca_prime_powers (T : Tx K mg) : Ca P w K mg base 1 "prime_powers" s_prime_powers ["number"] spPrimePowers := by
  refine Ca.of (fd_prime_powers T) sc_prime_powers ?_ ?_
  · rintro vs H Q E ⟨n, rfl, _⟩; rfl
  · rintro f cdv A out s H vs Q E hr ⟨n, rfl, n0, hn, q⟩
    refine ⟨_, (pss_cons (ps_set (i := 1) sc_prime_powers.nd rfl (.inl rfl) pe_dnewK)
 (pss_cons (ps_set (i := 2) sc_prime_powers.nd rfl (.inl rfl) pe_int)
 (pss_cons (ps_while PassesOwn.never (pt_cmpR op_le (pe_op op_mulW (pv 2) (pv 2)) (pv 0) (nomark _))
 (pss_cons (ps_while PassesOwn.never (pt_cmpR op_eq (pe_op op_mod (pv 0) (pv 2)) pe_int (nomark _))
 (pss_cons (ps_dput (hu_of hr) (pv 1) (pv 2) (pe_op op_add (pe_dget2 (hu_of hr) (pv 1) (pv 2) pe_int ⟨rfl, rfl, rfl, rfl⟩) pe_int) rfl)
 (pss_one (ps_set (i := 0) sc_prime_powers.nd rfl (.inl rfl) (pe_op op_fdivW (pv 0) (pv 2))))))
 (pss_one (ps_aug (i := 2) sc_prime_powers.nd rfl (.inl rfl) pe_int ip_add))))
 (pss_cons (ps_if (pt_cmpR op_gt (pv 0) pe_int (nomark _))
 (pss_one (ps_dput (hu_of hr) (pv 1) (pv 0) (pe_op op_add (pe_dget2 (hu_of hr) (pv 1) (pv 0) pe_int ⟨rfl, rfl, rfl, rfl⟩) pe_int) rfl))
 pss_nil)
 (pss_one (ps_ret (pv 1))))))), ?_⟩
    intro D nD
    refine while_by (fun σ H' => ∃ (m d : Nat) (L : List (Nat × Nat)), σ = [some (.int m), some (.ref D), some (.int d)] ∧ m ≤ n ∧ d ≤ n + 2 ∧ PpI n m d L ∧ Same H H' ∧ H' D = some (.dK (kd (zz L))))
      (fun σ _ => match σ with | [_, _, some (.int d)] => (n + 3 - d).toNat | _ => 0) ?_ ?_ ?_
    · refine ⟨n, 2, [], rfl, Nat.le_refl _, by omega, ⟨n0, by omega, by simp, by simp, by simp, fun e h1 h2 => by omega, by simp [pprod]⟩, same_new nD, upd_same⟩
    · rintro σ H' ⟨m, d, L, rfl, hm, hd, I, sm, hD⟩
      refine ⟨_, rfl, _, rfl, _, _, rfl, rfl, wide_mul (a := 41) (b := 41) (by omega) (by omega) (by omega) (by omega) (by omega), _, rfl, _, _, rfl, rfl, _, rfl, ite2 (fun c => ?_) (fun c => ?_)⟩
      · have c' : d * d ≤ m := by
          have := of_decide_eq_true c
          have e : ((d : Int) * d) = ((d * d : Nat) : Int) := by simp
          omega
        have dn : d ≤ n := by have := Nat.le_mul_self d; omega
        refine while_by (fun σ H'' => ∃ (m' c : Nat), σ = [some (.int m'), some (.ref D), some (.int d)] ∧ m' ≤ n ∧ PpJ n m' d c L ∧ Same H H'' ∧ H'' D = some (.dK (kd (zz (ppList L d c)))))
          (fun σ _ => match σ with | [some (.int x), _, _] => x.toNat | _ => 0) ⟨m, 0, rfl, hm, I.inner, sm, hD⟩ ?_ ?_
        · rintro σ H2 ⟨m', c2, rfl, hm', J, sm2, hD2⟩
          have d0 := J.d2
          refine ⟨_, rfl, _, rfl, _, _, rfl, rfl, (by show (0 : Int) < d; omega), rfl, _, rfl, ite2 (fun z => ?_) (fun z => ?_)⟩
          · have z' : m' % d = 0 := by
              have := V.int.inj (of_decide_eq_true z)
              omega
            obtain ⟨J2, lt⟩ := J.step z'
            have len : (kd (zz (ppList L d c2))).length < sizeLine := by
              unfold kd zz
              rw [List.length_map, List.length_map, sizeLine_eq]
              have h1 : L.length < 40 := pp_len (m := d ^ c2 * m') J.pr (by rw [← Nat.mul_assoc]; exact J.prod) (Nat.mul_pos (Nat.pow_pos (by omega)) J.m0) hn
              unfold ppList
              split
              · omega
              · rw [List.length_append, List.length_singleton]; omega
            refine ⟨_, rfl, D, rfl, .inl ⟨_, .inl hD2⟩, _, rfl, _, DGet.k (k := Sum.inl (d : Int)) hD2, _, _, kd_getD _ _, rfl, _, rfl, _, rfl, D, _, rfl, DPut.k (k := Sum.inl (d : Int)) hD2 len, ?_⟩
            refine ⟨_, rfl, _, rfl, _, _, rfl, rfl, wide_div (by omega) (b := 41) (by omega) (by omega) (by omega), ?_, ?_⟩
            · refine ⟨m' / d, c2 + 1, by rfl, by omega, J2, same_write nD sm2, ?_⟩
              rw [upd_same, kd_put, pp_put J.low]
            · show ((m' : Int) / d).toNat < ((m' : Int)).toNat
              have e : ((m' : Int) / d) = ((m' / d : Nat) : Int) := by simp
              rw [e, Int.toNat_natCast, Int.toNat_natCast]
              exact lt
          · have z' : m' % d ≠ 0 := by
              intro y
              exact z (decide_eq_true (congrArg V.int (by omega)))
            refine ⟨_, rfl, _, _, rfl, rfl, ⟨m', d + 1, _, rfl, hm', by omega, J.done z', sm2, hD2⟩, ?_⟩
            show ((n : Int) + 3 - ((d : Int) + 1)).toNat < ((n : Int) + 3 - (d : Int)).toNat
            omega
        · rintro σ H1 Q1 Q2 h ⟨v, e1, u, e2, i, j, e3, e4, z, z2, b, e8, e9⟩
          exact ⟨v, e1, u, e2, i, j, e3, e4, z, z2, b, e8, h _ _ e9⟩
      · have c' : m < d * d := by
          have e : ((d : Int) * d) = ((d * d : Nat) : Int) := by simp
          have : ¬ ((d : Int) * d ≤ m) := fun z => c (decide_eq_true z)
          omega
        refine ⟨_, rfl, _, _, rfl, rfl, _, rfl, ite2 (fun z => ?_) (fun z => ?_)⟩
        · have z' : m > 1 := by have := of_decide_eq_true z; omega
          obtain ⟨e2, low⟩ := I.end2 z' c'
          have hn0 : (zz L).lookup (m : Int) = none := zz_none fun q hq => Nat.ne_of_lt (low q hq)
          have len : (kd (zz L)).length < sizeLine := by
            unfold kd zz
            rw [List.length_map, List.length_map, sizeLine_eq]
            have h1 : L.length < 40 := pp_len I.pr I.prod I.m0 hn
            omega
          refine ⟨_, rfl, D, rfl, .inl ⟨_, .inl hD⟩, _, rfl, _, DGet.k (k := Sum.inl (m : Int)) hD, _, _, kd_getD _ _, rfl, _, rfl, _, rfl, D, _, rfl, DPut.k (k := Sum.inl (m : Int)) hD len, ?_⟩
          refine ⟨_, rfl, q D _ _ nD (same_write nD sm) ?_ e2⟩
          rw [upd_same, kd_put, ip_new hn0, ← zz_snoc]
          unfold ig
          rw [hn0]; rfl
        · have z' : ¬ m > 1 := fun y => z (decide_eq_true (show (1 : Int) < (m : Int) by omega))
          exact ⟨_, rfl, q D _ _ nD sm hD (I.end1 z')⟩
    · rintro σ H1 Q1 Q2 h ⟨v, e1, u, e2, i, j, e3, e4, z, u2, e5, i2, j2, e6, e7, b, e8, e9⟩
      exact ⟨v, e1, u, e2, i, j, e3, e4, z, u2, e5, i2, j2, e6, e7, b, e8, h _ _ e9⟩
end
end K02

namespace K02
open PySem PySem.Spec PyProof.Rows L2 Ly Am
section
variable {P : Program} {w : World} {K : PySem.W.Frag} {mg : Str → Option Value} {base : Heap}
theorem kd_at {L : List (Int × Int)} {i : Nat} {k : Key} {x : V} (h : (kd L)[i]? = some (k, x)) : ∃ q, L[i]? = some q ∧ k = Sum.inl q.1 ∧ x = V.int q.2 := by
  unfold kd at h
  rw [List.getElem?_map] at h
  cases e : L[i]? with
  | none => rw [e] at h; cases h
  | some q =>
    rw [e] at h
    have := Option.some.inj h
    exact ⟨q, rfl, (congrArg Prod.fst this).symm, (congrArg Prod.snd this).symm⟩
theorem gl_snoc (b c : Int) (cs : List Int) : gl b (cs ++ [c]) = ((Nat.gcd (gl b cs).natAbs c.natAbs : Nat) : Int) := by
  unfold gl; rw [List.foldl_append]; rfl
theorem take_snoc {α β : Type} (f : α → β) {L : List α} {i : Nat} {q : α} (h : L[i]? = some q) : (L.take (i + 1)).map f = (L.take i).map f ++ [f q] := by
  rw [List.take_add_one, h, List.map_append]; rfl
/-- the parts that a dict makes, divided by g -/
def cut (g : Int) (L : List (Int × Int)) : List (Int × Int) := (L.filter fun q => decide (q.2 ≠ 0)).map fun q => (q.1, q.2 / g)
theorem cut_snoc {g : Int} {L : List (Int × Int)} {i : Nat} {q : Int × Int} (h : L[i]? = some q) : cut g (L.take (i + 1)) = if q.2 = 0 then cut g (L.take i) else cut g (L.take i) ++ [(q.1, q.2 / g)] := by
  unfold cut
  rw [List.take_add_one, h, List.filter_append, List.map_append]
  by_cases z : q.2 = 0
  · rw [if_pos z]; simp [z]
  · rw [if_neg z]; simp [z]
theorem cut_len (g : Int) (L : List (Int × Int)) : (cut g L).length ≤ L.length := by
  unfold cut; rw [List.length_map]; exact List.length_filter_le _ _
/-- primes alone are keys, none twice -/
structure KeyOk (L : List (Int × Int)) : Prop where
  nd : (L.map (·.1)).Nodup
  pr : ∀ q ∈ L, ∃ p : Nat, q.1 = p ∧ Pr p ∧ p < 1000000
def spAmountFrom (K : PySem.W.Frag) : Sp := fun vs H Q _ => ∃ (b : Int) (D : Addr) (L : List (Int × Int)), vs = [.int b, .ref D] ∧ 0 < b ∧ b < 2 ^ 64 ∧ H D = some (.dK (kd L)) ∧ KeyOk L ∧ L.length ≤ 2000 ∧
  ∀ v d L' H', Same H H' → AmtAt K H' v d L' → St4 d L' b (ig L) → Q v H'
theorem ca_amount_from (T : Tx K mg) : Ca P w K mg base 1 "amount_from" s_amount_from ["bottom", "powers"] (spAmountFrom K) := by
  refine Ca.of (fd_amount_from T) sc_amount_from ?_ ?_
  · rintro vs H Q E ⟨b, D, L, rfl, _⟩; rfl
  · rintro f cdv A out s H vs Q E hr ⟨b, D, L, rfl, hb, hb2, hD, ko, hl, q⟩
    refine ⟨_, (pss_cons (ps_set (i := 2) sc_amount_from.nd rfl (.inr rfl) (pv 0))
 (pss_cons (ps_lock (ps_for PassesOwn.never rfl (pi_values (pv 1)) (pg_name (i := 3) sc_amount_from.nd rfl (.inl rfl))
 (pss_one (ps_set (i := 2) sc_amount_from.nd rfl (.inr rfl) (pe_callBfun cr_gcd (by rfl) T.b_gcd (pa_cons (pv 2) (pa_cons (pv 3) pa_nil)))))))
 (pss_cons (ps_lock (ps_setLc (i := 4) (own := [("prime", 5), ("factor", 3)]) rfl sc_amount_from.nd rfl rfl (sw_true rfl rfl rfl (by decide +kernel)) (pi_items (pv 1)) (blkOk_by (own := [("prime", 5), ("factor", 3)]) (N := n_amount_from) (sc := (defScope s_amount_from)) (by decide +kernel)) (fun _ _ _ _ _ => (pg_tupK (K := K) 2 rfl (pgs_cons (pg_name (i := 5) sc_amount_from.nd rfl (Or.inl rfl) (Or.inr rfl)) (pgs_cons (pg_name (i := 3) sc_amount_from.nd rfl (Or.inl rfl) (Or.inr rfl)) pgs_nil)))) (fun _ _ _ _ _ => (pts_one (pt_cmpR op_ne (pv 3) pe_int (nomark _)))) (fun _ _ _ _ _ => (pe_tup (pa_cons (pv 5) (pa_cons (pe_op op_fdivW (pv 3) (pv 2)) pa_nil))))))
 (pss_one (ps_ret (pe_tup (pa_cons (pe_op op_fdivW (pv 0) (pv 2)) (pa_cons (pe_callTy call_tuple_of (by rfl) T.f_tuple (by decide +kernel) (pa_cons (pe_callB cr_sortedPO (by rfl) T.f_sorted (by decide +kernel) (pa_cons (pv 4) pa_nil)) pa_nil)) pa_nil)))))))), ?_⟩
    refine ⟨_, rfl, ?_⟩
    -- divisor = gcd of all
    refine ⟨D, _, hD, trivial, fun od => ?_⟩
    refine ⟨_, rfl, D, od, _, rfl, upd_same, ?_⟩
    have back : upd (upd H D (.frz od (.dK (kd L)))) D (.dK (kd L)) = H := by
      rw [upd_upd]
      funext x
      by_cases h : x = D
      · rw [h, upd_same, hD]
      · rw [upd_ne h]
    refine for_vals (fun i σ H' => ∃ y3, σ = [some (.int b), some (.ref D), some (.int (gl b ((L.take i).map (·.2)))), y3, none, none] ∧ H' = upd H D (.frz od (.dK (kd L)))) ⟨_, rfl, rfl⟩ ?_ ?_ ?_
    · rintro i σ H' ⟨y3, _, rfl⟩; exact upd_same
    · rintro i k x σ H' hk ⟨y3, rfl, rfl⟩
      obtain ⟨c, hc, rfl, rfl⟩ := kd_at hk
      refine ⟨_, rfl, _, rfl, _, _, rfl, ⟨some (.int c.2), ?_, rfl⟩⟩
      rw [take_snoc _ hc, gl_snoc]
      rfl
    · rintro σ H' ⟨y3, rfl, rfl⟩
      refine ⟨upd_same, ?_⟩
      rw [back]
      have hlen : (kd L).length = L.length := by unfold kd; rw [List.length_map]
      rw [hlen, List.take_of_length_le (Nat.le_refl _)]
      have g0 : 0 < gl b (L.map (·.2)) := gl_pos _ _ hb
      have gle : gl b (L.map (·.2)) ≤ b := gl_le _ hb
      generalize eg : gl b (L.map (·.2)) = g at *
      have gW : g.natAbs < 2 ^ 64 := by omega
      -- parts = ..
      refine ⟨D, _, hD, trivial, fun od2 => ?_⟩
      refine ⟨_, rfl, D, od2, _, rfl, upd_same, fun Dl nDl => ?_⟩
      have nD0 : Dl ≠ D := fun z => by rw [z, upd_same] at nDl; cases nDl
      refine lc_items (fun i H' => ∃ rs, H' Dl = some (.lst (rs.map V.ref)) ∧ TrP H' rs (cut g (L.take i)) ∧ Same (upd H D (.frz od2 (.dK (kd L)))) H') ?_ ?_ ?_ ?_
      · exact ⟨[], upd_same, .nil, same_new nDl⟩
      · rintro i H' ⟨rs, _, _, sm⟩
        exact sm _ _ upd_same
      · rintro i k x T2 H' hk ⟨rs, hDl, tr, sm⟩ nT
        obtain ⟨c, hc, rfl, rfl⟩ := kd_at hk
        have s1 : Same H' (upd H' T2 (.tup [V.int c.1, V.int c.2])) := same_new nT
        refine ⟨T2, _, rfl, sqT_new, rfl, _, _, rfl, _, [], rfl, rfl, rfl, ?_⟩
        refine ⟨_, rfl, rfl, ?_⟩
        have e1 : (!decide (V.int c.2 = V.int 0)) = !decide (c.2 = 0) := by
          congr 1
          exact decide_eq_decide.mpr ⟨fun z => V.int.inj z, fun z => congrArg V.int z⟩
        refine ⟨_, rfl, ?_⟩
        rw [e1]
        have rl : rs.length = (cut g (L.take i)).length := Paired.length tr
        have rlen : rs.length ≤ 2000 := by
          have h1 := cut_len g (L.take i)
          have h2 : (L.take i).length ≤ L.length := by rw [List.length_take]; omega
          omega
        by_cases z : c.2 = 0
        · rw [decide_eq_true z]
          refine iteF ⟨rs, s1 _ _ hDl, ?_, sm.trans s1⟩
          rw [cut_snoc hc, if_pos z]
          exact tr.same s1
        · rw [decide_eq_false z]
          refine iteT ?_
          refine ⟨_, rfl, _, rfl, _, rfl, _, _, rfl, rfl, wide_div g0 gW (by omega) (by omega), by show 2 ≤ sizeLine; rw [sizeLine_eq]; omega, fun p np => ?_⟩
          have s2 := same_new (o := .tup [V.int c.1, V.int (c.2 / g)]) np
          have s12 := s1.trans s2
          refine ⟨_, s12 _ _ hDl, by rw [List.length_map, sizeLine_eq]; omega, rs ++ [p], ?_, ?_, ?_⟩
          · rw [upd_same, List.map_append]; rfl
          · rw [cut_snoc hc, if_neg z]
            have pD : p ≠ Dl := fun e => ne_of_none (s1 _ _ hDl) np e.symm
            refine paired_snoc ?_ ?_
            · rw [upd_ne pD]; exact upd_same
            · exact (tr.same s12).kp (fun b o e n1 _ => by
                by_cases h : b = Dl
                · subst h; rw [s12 _ _ hDl] at e; exact absurd (Option.some.inj e).symm (n1 _)
                · rw [upd_ne h]; exact e)
          · exact same_write nDl (sm.trans s12)
      · rintro H2 ⟨rs, hDl, tr, sm⟩
        rw [hlen, List.take_of_length_le (Nat.le_refl _)] at tr
        refine ⟨sm _ _ upd_same, ?_⟩
        -- the lock is off
        have smH : Same H (upd H2 D (.dK (kd L))) := fun b' o e => by
          by_cases h : b' = D
          · subst h; rw [upd_same, ← hD]; exact e
          · rw [upd_ne h]; exact sm _ _ (by rw [upd_ne h]; exact e)
        have hDl2 : (upd H2 D (.dK (kd L))) Dl = some (.lst (rs.map V.ref)) := by rw [upd_ne nD0]; exact hDl
        have tr2 : TrP (upd H2 D (.dK (kd L))) rs (cut g L) := Paired.mapP tr fun r c h => by
          have : r ≠ D := fun z => by rw [z, sm _ _ upd_same] at h; cases h
          rw [upd_ne this]; exact h
        have nd : ((cut g L).map (·.1)).Nodup := by
          unfold cut
          rw [List.map_map]
          exact (ko.nd).sublist (List.Sublist.map _ List.filter_sublist)
        refine ⟨_, rfl, _, rfl, _, _, rfl, rfl, wide_div g0 gW (by omega) (by omega), ?_⟩
        refine ⟨_, rfl, _, _, kOf _, rfl, .inl (.inl hDl2), tr2.mem, fun ys p1 sr st np1 => ?_⟩
        obtain ⟨rs', L', e2, tr3, pm, asc⟩ := sorted_pairs tr2 nd sr st
        have s3 := same_new (o := .lst ys) np1
        refine ⟨_, _, rfl, .inl ⟨sqL_new, fun p2 np2 => ?_⟩⟩
        have s4 := same_new (o := .tup ys) np2
        refine ⟨by show 2 ≤ sizeLine; rw [sizeLine_eq]; omega, fun p3 np3 => ?_⟩
        have s5 := same_new (o := .tup [V.int (b / g), V.ref p2]) np3
        have cnd : St4 (b / gl b (L.map (·.2))) L' b (ig L) := cn_made hb ko.nd ko.pr (by rw [eg]; exact pm) asc
        rw [eg] at cnd
        refine q _ _ _ _ (((smH.trans s3).trans s4).trans s5) ⟨p3, p2, rs', rfl, sqT_new, ?_, ?_⟩ cnd
        · rw [← e2]; exact SqT.same s5 sqT_new
        · exact ((tr3.same s3).same (s4.trans s5)).pairs
end
end K02

namespace K02
open PySem PySem.Spec PyProof.Rows L2 Ly Am
section
variable {P : Program} {w : World} {K : PySem.W.Frag} {mg : Str → Option Value} {base : Heap}
theorem KeyOk.no {L : List (Int × Int)} (k : KeyOk L) {p : Int} (h : ¬ ∃ n : Nat, p = n ∧ Pr n) : ig L p = 0 :=
  ig_none fun q hq z => by
    obtain ⟨n, e, pr, _⟩ := k.pr q hq
    exact h ⟨n, by rw [← z, e], pr⟩
theorem KeyOk.put {L : List (Int × Int)} (k : KeyOk L) {p : Nat} (v : Int) (hp : Pr p) (hl : p < 1000000) : KeyOk (ip L p v) := by
  refine ⟨ip_nodup _ _ k.nd, fun q hq => ?_⟩
  rcases ip_keys (List.mem_map.mpr ⟨q, hq, rfl⟩) with e | e
  · exact ⟨p, e, hp, hl⟩
  · obtain ⟨x, hx, e⟩ := List.mem_map.mp e
    rw [← e]; exact k.pr x hx
theorem KeyOk.len {L : List (Int × Int)} (k : KeyOk L) {m : Nat} (h : ∀ q ∈ L, q.1 ≤ m) : L.length ≤ m + 1 := by
  have := nodup_le (m + 1) (L.map (·.1)) k.nd (fun x hx => by
    obtain ⟨q, hq, rfl⟩ := List.mem_map.mp hx
    obtain ⟨n, e, _⟩ := k.pr q hq
    have := h q hq
    omega)
  rw [List.length_map] at this
  exact this
theorem kd_len (L : List (Int × Int)) : (kd L).length = L.length := by unfold kd; rw [List.length_map]
theorem ig_zz {L : List (Nat × Nat)} (p : Nat) : ig (zz L) p = (look L p : Nat) := by
  induction L with
  | nil => rfl
  | cons q r ih =>
    show ig (((q.1 : Int), (q.2 : Int)) :: zz r) p = _
    rw [ig_cons, ih]
    unfold look
    rw [List.lookup_cons]
    by_cases h : p = q.1
    · subst h; simp
    · have h1 : (p == q.1) = false := by simpa using h
      rw [h1, if_neg (by show ¬ (p : Int) = (q.1 : Int); omega)]
/-- the pairs (factor, number) -/
structure PairsIn (M : List (Int × Int)) : Prop where
  num : ∀ q ∈ M, 0 < q.2 ∧ q.2 ≤ 1000
  fac : ∀ q ∈ M, q.1.natAbs < 2 ^ 20
  len : M.length ≤ 50
theorem pf_le {L : List (Nat × Nat)} (h : ∀ q ∈ L, Pr q.1 ∧ 0 < q.2) {q : Nat × Nat} (hq : q ∈ L) : q.1 ^ q.2 ≤ pprod L := by
  induction L with
  | nil => cases hq
  | cons x r ih =>
    have hr : ∀ z ∈ r, Pr z.1 ∧ 0 < z.2 := fun z hz => h z (List.mem_cons_of_mem _ hz)
    show _ ≤ x.1 ^ x.2 * pprod r
    rcases List.mem_cons.mp hq with e | hq
    · rw [e]; exact Nat.le_mul_of_pos_right _ (pprod_pos hr)
    · exact Nat.le_trans (ih hr hq) (Nat.le_mul_of_pos_left _ (Nat.pow_pos (h x List.mem_cons_self).1.pos))
theorem PF.bound {n : Nat} {L : List (Nat × Nat)} (f : PF n L) {q : Nat × Nat} (hq : q ∈ L) : q.1 ≤ n ∧ 2 ^ q.2 ≤ n := by
  have h1 := pf_le f.pr hq
  rw [f.prod] at h1
  obtain ⟨p1, p2⟩ := f.pr q hq
  have h2 : q.1 ^ 1 ≤ q.1 ^ q.2 := Nat.pow_le_pow_right p1.pos p2
  have h3 : 2 ^ q.2 ≤ q.1 ^ q.2 := Nat.pow_le_pow_left p1.1 _
  rw [Nat.pow_one] at h2
  omega
theorem PF.ig {n : Nat} {L : List (Nat × Nat)} (f : PF n L) (p : Int) : ig (zz L) p = lg [(1, n)] p := by
  rw [lg_one]
  by_cases h : 0 ≤ p ∧ Pr p.toNat
  · rw [if_pos h]
    have e : p = (p.toNat : Int) := by omega
    rw [e, ig_zz, f.look h.2]
    unfold vi
    rw [Int.toNat_natCast, Int.toNat_natCast, Int.one_mul]
  · rw [if_neg h]
    apply ig_none
    intro q hq z
    obtain ⟨x, hx, rfl⟩ := List.mem_map.mp hq
    have z' : (x.1 : Int) = p := z
    exact h ⟨by omega, by rw [← z', Int.toNat_natCast]; exact (f.pr x hx).1⟩
theorem lg_scale (f n p : Int) : lg [(f, n)] p = f * lg [(1, n)] p := by
  rw [lg_one, lg_one]
  split
  · rw [Int.one_mul]
  · rw [Int.mul_zero]
theorem ig_take {L : List (Int × Int)} {j : Nat} {q : Int × Int} (hn : (L.map (·.1)).Nodup) (h : L[j]? = some q) (p : Int) : ig (L.take (j + 1)) p = if p = q.1 then q.2 else ig (L.take j) p := by
  rw [List.take_add_one, h]
  have key : ∀ M : List (Int × Int), (∀ x ∈ M, x.1 ≠ q.1) → ig (M ++ [q]) p = if p = q.1 then q.2 else ig M p := by
    intro M
    induction M with
    | nil =>
      intro _
      show ig [q] p = _
      rw [ig_cons]
    | cons x r ih =>
      intro hx
      rw [List.cons_append, ig_cons, ig_cons, ih fun y hy => hx y (List.mem_cons_of_mem _ hy)]
      have := hx x List.mem_cons_self
      by_cases e : p = x.1
      · rw [if_pos e, if_pos e, if_neg (by rw [e]; exact this)]
      · rw [if_neg e, if_neg e]
  refine key _ fun x hx z => ?_
  have hj : j < L.length := (List.getElem?_eq_some_iff.mp h).1
  have e1 : L = L.take j ++ q :: L.drop (j + 1) := by
    conv => lhs; rw [← List.take_append_drop j L]
    congr 1
    rw [List.drop_eq_getElem_cons hj]
    congr 1
    exact (List.getElem?_eq_some_iff.mp h).2
  rw [e1, List.map_append, List.nodup_append] at hn
  exact hn.2.2 _ (List.mem_map.mpr ⟨x, hx, rfl⟩) _ (by rw [List.map_cons]; exact List.mem_cons_self) z
theorem zz_nodup {L : List (Nat × Nat)} (h : L.Pairwise (fun a b => a.1 < b.1)) : ((zz L).map (·.1)).Nodup := by
  unfold zz
  rw [List.map_map, List.Nodup, List.pairwise_map]
  refine h.imp ?_
  intro a b hab z
  have : (a.1 : Int) = (b.1 : Int) := z
  omega
def spLogsAdded (K : PySem.W.Frag) : Sp := fun vs H Q _ => ∃ (a : Addr) (rs : List Addr) (M : List (Int × Int)), vs = [.ref a] ∧ SqL K H a (rs.map V.ref) ∧ PairsAt K H rs M ∧ PairsIn M ∧
  ∀ D L H', H D = none → Same H H' → H' D = some (.dK (kd L)) → KeyOk L → (∀ q ∈ L, q.1 ≤ 1000) → (∀ p, ig L p = lg M p) → Q (.ref D) H'
theorem ca_logs_added (T : Tx K mg) : Ca P w K mg base 2 "logs_added" s_logs_added ["pairs"] (spLogsAdded K) := by
  have C_prime_powers := ca_prime_powers (P := P) (w := w) (base := base) T
  refine Ca.of (fd_logs_added T) sc_logs_added ?_ ?_
  · rintro vs H Q E ⟨a, rs, M, rfl, _⟩; rfl
  · rintro f cdv A out s H vs Q E hr ⟨a, rs, M, rfl, hS, hP, hM, q⟩
    refine ⟨_, (pss_cons (ps_set (i := 1) sc_logs_added.nd rfl (.inl rfl) pe_dnewK)
 (pss_cons (ps_for PassesOwn.never rfl (pi_list (pv 0)) (pg_tup rfl (pgs_cons (pg_name (i := 2) sc_logs_added.nd rfl (.inl rfl)) (pgs_cons (pg_name (i := 3) sc_logs_added.nd rfl (.inl rfl)) pgs_nil)))
 (pss_cons (ps_set (i := 4) sc_logs_added.nd rfl (.inl rfl) (pe_ca C_prime_powers hr (pa_cons (pv 3) pa_nil)))
 (pss_one (ps_lock (ps_for PassesOwn.never rfl (pi_items (pv 4)) (pg_tup rfl (pgs_cons (pg_name (i := 5) sc_logs_added.nd rfl (.inl rfl)) (pgs_cons (pg_name (i := 6) sc_logs_added.nd rfl (.inl rfl)) pgs_nil)))
 (pss_one (ps_dput (hu_of hr) (pv 1) (pv 5) (pe_op op_add (pe_dget2 (hu_of hr) (pv 1) (pv 5) pe_int ⟨rfl, rfl, rfl, rfl⟩) (pe_op op_mulW (pv 6) (pv 2))) rfl)))))))
 (pss_one (ps_ret (pv 1))))), ?_⟩
    intro D nD
    refine ⟨_, rfl, a, rfl, ⟨_, (same_new nD).seq hS⟩, ?_⟩
    refine for_list (xs := rs.map V.ref) (fun i σ H' => ∃ L y2 y3 y4 y5 y6, σ = [some (.ref a), some (.ref D), y2, y3, y4, y5, y6] ∧ H' D = some (.dK (kd L)) ∧ KeyOk L ∧ (∀ q ∈ L, q.1 ≤ 1000) ∧ (∀ p, ig L p = lg (M.take i) p) ∧ Same H H') ?_ ?_ ?_ ?_
    · refine ⟨[], none, none, none, none, none, rfl, upd_same, ⟨List.nodup_nil, by simp⟩, by simp, fun p => ?_, same_new nD⟩
      rw [List.take_zero, lg_nil]; rfl
    · rintro i σ H' _ ⟨L, _, _, _, _, _, _, _, _, _, _, sm⟩
      exact sm.seq hS
    · rintro i x σ H1 hx ⟨L, y2, y3, y4, y5, y6, rfl, hD, ko, kl, hv, sm⟩
      rw [List.getElem?_map] at hx
      obtain ⟨r, hr1, rfl⟩ : ∃ r, rs[i]? = some r ∧ V.ref r = x := by
        cases e : rs[i]? with
        | none => rw [e] at hx; cases hx
        | some r => rw [e] at hx; exact ⟨r, rfl, Option.some.inj hx⟩
      obtain ⟨c, hc, ht⟩ := Paired.at' hP hr1
      have cm := List.mem_of_getElem? hc
      obtain ⟨n1, n2⟩ := hM.num c cm
      obtain ⟨n, hn⟩ : ∃ n : Nat, c.2 = n := ⟨c.2.toNat, by omega⟩
      refine ⟨r, _, rfl, SqT.same sm ht, rfl, _, _, rfl, _, [], rfl, rfl, ?_⟩
      -- found = prime_powers(number)
      refine ⟨_, rfl, n, by rw [hn]; rfl, by omega, by omega, fun Df F H2 nDf sm2 hDf pf => ?_⟩
      have nDf0 : H Df = none := sm.free nDf
      have DDf : D ≠ Df := ne_of_none hD nDf
      refine ⟨Df, _, hDf, trivial, fun od => ?_⟩
      refine ⟨_, rfl, Df, od, _, rfl, upd_same, ?_⟩
      have sm3 : Same H (upd H2 Df (.frz od (.dK (kd (zz F))))) := same_write nDf0 (sm.trans sm2)
      refine for_items (fun j σ H3 => ∃ L' y5 y6, σ = [some (.ref a), some (.ref D), some (.int c.1), some (.int c.2), some (.ref Df), y5, y6] ∧ H3 D = some (.dK (kd L')) ∧ KeyOk L' ∧ (∀ q ∈ L', q.1 ≤ 1000) ∧
          (∀ p, ig L' p = ig L p + c.1 * ig ((zz F).take j) p) ∧ H3 Df = some (.frz od (.dK (kd (zz F)))) ∧ Same H H3) ?_ ?_ ?_ ?_
      · refine ⟨L, y5, y6, rfl, ?_, ko, kl, fun p => ?_, upd_same, sm3⟩
        · rw [upd_ne DDf]; exact sm2 _ _ hD
        · rw [List.take_zero, show ig [] p = 0 from rfl, Int.mul_zero, Int.add_zero]
      · rintro j σ H3 ⟨_, _, _, _, _, _, _, _, e, _⟩; exact e
      · rintro j k x T3 σ H3 hk ⟨L', y5, y6, rfl, hD3, ko3, kl3, hv3, hf3, s3⟩ nT3
        obtain ⟨u, hu, rfl, rfl⟩ := kd_at hk
        have hz : (zz F)[j]? = some u := hu
        obtain ⟨z, hz2, hz3⟩ : ∃ z ∈ F, u = ((z.1 : Int), (z.2 : Int)) := by
          have := List.mem_of_getElem? hu
          obtain ⟨z, a1, a2⟩ := List.mem_map.mp this
          exact ⟨z, a1, a2.symm⟩
        obtain ⟨b1, b2⟩ := PF.bound pf hz2
        obtain ⟨p1, p2⟩ := pf.pr z hz2
        have e10 : z.2 < 10 := by
          have : 2 ^ z.2 < 2 ^ 10 := by omega
          exact (Nat.pow_lt_pow_iff_right (a := 2) (by omega)).mp this
        have s4 := same_new (o := .tup [V.int u.1, V.int u.2]) nT3
        have hD4 := s4 _ _ hD3
        have lenL : L'.length ≤ 1000 + 1 := ko3.len (m := 1000) kl3
        refine ⟨T3, _, rfl, sqT_new, rfl, _, _, rfl, _, [], rfl, rfl, ?_⟩
        refine ⟨_, rfl, D, rfl, .inl ⟨_, .inl hD4⟩, _, rfl, _, DGet.k (k := Sum.inl u.1) hD4, _, rfl, _, rfl, _, _, rfl, rfl, wide_mul (a := 10) (b := 20) (by rw [hz3]; show (z.2 : Int).natAbs < _; omega) (hM.fac c cm) (by omega) (by omega) (by omega), ?_⟩
        refine ⟨_, _, kd_getD _ _, rfl, _, rfl, _, rfl, D, _, rfl, DPut.k (k := Sum.inl u.1) hD4 (by rw [kd_len, sizeLine_eq]; omega), ?_⟩
        refine ⟨ip L' u.1 (ig L' u.1 + u.2 * c.1), _, _, rfl, ?_, ?_, ?_, fun p => ?_, ?_, ?_⟩
        · rw [upd_same, kd_put]
        · rw [hz3]; exact ko3.put _ p1 (by omega)
        · intro y hy
          rcases ip_keys (List.mem_map.mpr ⟨y, hy, rfl⟩) with e | e
          · rw [e, hz3]; show (z.1 : Int) ≤ 1000; omega
          · obtain ⟨x, hx, e⟩ := List.mem_map.mp e
            rw [← e]; exact kl3 x hx
        · rw [ig_ip, ig_take (zz_nodup pf.asc) hz]
          by_cases e : p = u.1
          · rw [if_pos e, if_pos e, hv3, e]
            have : ig ((zz F).take j) u.1 = 0 := by
              have t := ig_take (zz_nodup pf.asc) hz u.1
              apply ig_none
              intro x hx y
              have nd := zz_nodup pf.asc
              have hj : j < (zz F).length := (List.getElem?_eq_some_iff.mp hz).1
              have e1 : zz F = (zz F).take j ++ u :: (zz F).drop (j + 1) := by
                conv => lhs; rw [← List.take_append_drop j (zz F)]
                congr 1
                rw [List.drop_eq_getElem_cons hj]
                congr 1
                exact (List.getElem?_eq_some_iff.mp hz).2
              rw [e1, List.map_append, List.nodup_append] at nd
              exact nd.2.2 _ (List.mem_map.mpr ⟨x, hx, rfl⟩) _ (by rw [List.map_cons]; exact List.mem_cons_self) y
            rw [this, Int.mul_zero, Int.add_zero, Int.mul_comm]
          · rw [if_neg e, if_neg e, hv3]
        · rw [upd_ne DDf.symm]; exact s4 _ _ hf3
        · exact same_write nD (s3.trans s4)
      · rintro σ H3 ⟨L', y5, y6, rfl, hD3, ko3, kl3, hv3, hf3, s3⟩
        refine ⟨hf3, L', _, _, _, _, _, rfl, ?_, ko3, kl3, fun p => ?_, same_write nDf0 s3⟩
        · rw [upd_ne DDf]; exact hD3
        · rw [hv3, hv, kd_len, List.take_of_length_le (Nat.le_refl _), PF.ig pf, ← hn, ← lg_scale]
          rw [show M.take (i + 1) = M.take i ++ [c] by rw [List.take_add_one, hc]; rfl, lg_append]
    · rintro σ H' ⟨L, _, _, _, _, _, rfl, hD, ko, kl, hv, sm⟩
      refine ⟨_, rfl, q D L H' nD sm hD ko kl fun p => ?_⟩
      rw [hv, List.take_of_length_le]
      have := Paired.length hP
      rw [List.length_map]; omega
end
end K02

namespace K02
open PySem PySem.Spec PyProof.Rows L2 Ly Am
section
variable {P : Program} {w : World} {K : PySem.W.Frag} {mg : Str → Option Value} {base : Heap}
/-- the pairs whose logarithms a spread adds up -/
def sprM (ns : List Int) : List (Int × Int) := (ns.sum, ns.sum) :: ns.map fun n => (-n, n)
structure Cts (ns : List Int) : Prop where
  pos : ∀ n ∈ ns, 0 < n
  ne : 0 < ns.length
  len : ns.length ≤ 40
  tot : ns.sum ≤ 1000
theorem sum_nonneg {ns : List Int} (h : ∀ n ∈ ns, 0 < n) : 0 ≤ ns.sum := by
  induction ns with
  | nil => simp
  | cons x r ih =>
    have := h x List.mem_cons_self
    have := ih fun y hy => h y (List.mem_cons_of_mem _ hy)
    rw [List.sum_cons]; omega
theorem mem_le_sum {ns : List Int} (h : ∀ n ∈ ns, 0 < n) {x : Int} (hx : x ∈ ns) : x ≤ ns.sum := by
  induction ns with
  | nil => cases hx
  | cons y r ih =>
    have hr : ∀ n ∈ r, 0 < n := fun z hz => h z (List.mem_cons_of_mem _ hz)
    have := sum_nonneg hr
    have := h y List.mem_cons_self
    rw [List.sum_cons]
    rcases List.mem_cons.mp hx with e | hx
    · omega
    · have := ih hr hx; omega
theorem Cts.sum_pos {ns : List Int} (c : Cts ns) : 0 < ns.sum := by
  cases ns with
  | nil => have := c.ne; simp at this
  | cons x r =>
    have h1 := c.pos x List.mem_cons_self
    have h2 := mem_le_sum c.pos (x := x) List.mem_cons_self
    omega
theorem Cts.pairs {ns : List Int} (c : Cts ns) : PairsIn (sprM ns) := by
  have s0 := c.sum_pos
  have t := c.tot
  refine ⟨?_, ?_, ?_⟩
  · intro q hq
    rcases List.mem_cons.mp hq with e | hq
    · rw [e]; exact ⟨s0, t⟩
    · obtain ⟨n, hn, rfl⟩ := List.mem_map.mp hq
      have := mem_le_sum c.pos hn
      have := c.pos n hn
      exact ⟨this, by show n ≤ 1000; omega⟩
  · intro q hq
    rcases List.mem_cons.mp hq with e | hq
    · rw [e]; show ns.sum.natAbs < _; omega
    · obtain ⟨n, hn, rfl⟩ := List.mem_map.mp hq
      have := mem_le_sum c.pos hn
      have := c.pos n hn
      show (-n).natAbs < _; omega
  · unfold sprM
    rw [List.length_cons, List.length_map]
    have := c.len; omega
theorem map_at {α β : Type} {f : α → β} {l : List α} {i : Nat} {x : β} (h : (l.map f)[i]? = some x) : ∃ n, l[i]? = some n ∧ f n = x := by
  rw [List.getElem?_map] at h
  cases e : l[i]? with
  | none => rw [e] at h; cases h
  | some n => rw [e] at h; exact ⟨n, rfl, Option.some.inj h⟩
def spSpreadOf (K : PySem.W.Frag) : Sp := fun vs H Q _ => ∃ (a : Addr) (ns : List Int), vs = [.ref a] ∧ SqT K H a (ns.map V.int) ∧ Cts ns ∧
  ∀ v d L H', Same H H' → AmtAt K H' v d L → St4 d L ns.sum (lg (sprM ns)) → Q v H'
theorem ca_spread_of (T : Tx K mg) : Ca P w K mg base 3 "spread_of" s_spread_of ["counts"] (spSpreadOf K) := by
  have C_amount_from := ca_amount_from (P := P) (w := w) (base := base) T
  have C_logs_added := ca_logs_added (P := P) (w := w) (base := base) T
  refine Ca.of (fd_spread_of T) sc_spread_of ?_ ?_
  · rintro vs H Q E ⟨a, ns, rfl, _⟩; rfl
  · rintro f cdv A out s H vs Q E hr ⟨a, ns, rfl, hT, hc, q⟩
    refine ⟨_, (pss_cons (ps_set (i := 1) sc_spread_of.nd rfl (.inl rfl) (pe_callB (cr_sumT rfl) (by rfl) T.f_sum (by decide +kernel) (pa_cons (pv 0) pa_nil)))
 (pss_one (ps_ret (pe_ca C_amount_from hr (pa_cons (pv 1) (pa_cons (pe_ca C_logs_added hr (pa_cons (pe_op op_cat (pe_lst (pa_cons (pe_tup (pa_cons (pv 1) (pa_cons (pv 1) pa_nil))) pa_nil)) (pe_lc (own := [("count", 2)]) rfl sc_spread_of.nd (pi_tup (pv 0)) (blkOk_by (own := [("count", 2)]) (N := n_spread_of) (sc := (defScope s_spread_of)) (by decide +kernel)) (fun _ _ _ _ _ => (pg_name (i := 2) sc_spread_of.nd rfl (Or.inl rfl) (Or.inr rfl))) (fun _ _ _ _ _ => pts_nil) (fun _ _ _ _ _ => (pe_tup (pa_cons (pe_un un_neg (pv 2)) (pa_cons (pv 2) pa_nil)))))) pa_nil)) pa_nil)))))), ?_⟩
    refine ⟨_, rfl, a, ns, rfl, hT, ?_⟩
    refine ⟨_, rfl, _, rfl, _, rfl, by show 2 ≤ sizeLine; rw [sizeLine_eq]; omega, fun p np => ⟨by show 1 ≤ sizeLine; rw [sizeLine_eq]; omega, fun l nl => ?_⟩⟩
    have s1 := same_new (o := .tup [V.int ns.sum, V.int ns.sum]) np
    have s2 := same_new (o := .lst [V.ref p]) nl
    have s12 := s1.trans s2
    have hl2 : (upd (upd H p (.tup [V.int ns.sum, V.int ns.sum])) l (.lst [V.ref p])) l = some (.lst [V.ref p]) := upd_same
    have hp2 : (upd (upd H p (.tup [V.int ns.sum, V.int ns.sum])) l (.lst [V.ref p])) p = some (.tup [V.int ns.sum, V.int ns.sum]) := s2 _ _ upd_same
    generalize (upd (upd H p (.tup [V.int ns.sum, V.int ns.sum])) l (.lst [V.ref p])) = H2 at *
    refine ⟨_, rfl, a, rfl, ⟨_, SqT.same s12 hT⟩, fun D nD => ?_⟩
    refine lc_tup (xs := ns.map V.int) (fun i H' => ∃ rs, H' D = some (.lst (rs.map V.ref)) ∧ TrP H' rs ((ns.take i).map fun n => (-n, n)) ∧ Same H2 H') ?_ ?_ ?_ ?_
    · exact ⟨[], upd_same, .nil, same_new nD⟩
    · rintro i H' _ ⟨rs, _, _, sm⟩; exact SqT.same (s12.trans sm) hT
    · rintro i x H' hx ⟨rs, hD, tr, sm⟩
      obtain ⟨n, hn, rfl⟩ := map_at hx
      refine ⟨rfl, ?_⟩
      refine ⟨_, rfl, _, rfl, _, rfl, by show 2 ≤ sizeLine; rw [sizeLine_eq]; omega, fun p2 np2 => ?_⟩
      have s3 := same_new (o := .tup [V.int (-n), V.int n]) np2
      have rl : rs.length = _ := Paired.length tr
      rw [List.length_map, List.length_take] at rl
      have := hc.len
      refine ⟨_, s3 _ _ hD, by rw [List.length_map]; exact small1000 (by omega), rs ++ [p2], ?_, ?_, same_write nD (sm.trans s3)⟩
      · rw [upd_same, List.map_append]; rfl
      · rw [take_snoc _ hn]
        have pD : p2 ≠ D := fun e => ne_of_none hD np2 e.symm
        refine paired_snoc ?_ ?_
        · rw [upd_ne pD]; exact upd_same
        · exact (tr.same s3).kp (fun b o e n1 _ => by
            by_cases h : b = D
            · subst h; rw [s3 _ _ hD] at e; exact absurd (Option.some.inj e).symm (n1 _)
            · rw [upd_ne h]; exact e)
    · rintro H3 ⟨rs, hD, tr, sm⟩
      rw [List.length_map, List.take_of_length_le (Nat.le_refl _)] at tr
      have rl : rs.length = _ := Paired.length tr
      rw [List.length_map] at rl
      have := hc.len
      refine ⟨l, D, _, _, rfl, rfl, sm _ _ hl2, hD, by rw [sizeLine_eq, List.length_map]; show 1 + _ ≤ _; omega, fun p3 np3 => ?_⟩
      have s4 := same_new (o := .lst ([V.ref p] ++ rs.map V.ref)) np3
      refine ⟨p3, p :: rs, sprM ns, rfl, sqL_new, .cons (.inl (.inl (s4 _ _ (sm _ _ hp2)))) (tr.same s4).pairs, hc.pairs, fun D2 L H4 nD2 sm4 hD2 ko kl hv => ?_⟩
      have lenL : L.length ≤ 1000 + 1 := ko.len (m := 1000) kl
      refine ⟨_, D2, L, rfl, hc.sum_pos, by have := hc.tot; omega, hD2, ko, ?_, fun v d L' H5 s5 am st => q v d L' H5 ((((s12.trans sm).trans s4).trans sm4).trans s5) am ⟨st.1, fun p => by rw [← hv]; exact st.2 p⟩⟩
      omega
end
end K02

namespace K02
open PySem PySem.Spec PyProof.Rows L2 Ly Am
abbrev Tm : Type := Int × Int × List (Int × Int)
def lcms (b : Int) (M : List Tm) : Int := M.foldl (fun g t => ((g.natAbs.lcm t.2.1.natAbs : Nat) : Int)) b
theorem lcms_snoc (b : Int) (M : List Tm) (t : Tm) : lcms b (M ++ [t]) = (((lcms b M).natAbs.lcm t.2.1.natAbs : Nat) : Int) := by
  unfold lcms; rw [List.foldl_append]; rfl
theorem lcms_pos : ∀ (M : List Tm) (b : Int), 0 < b → (∀ t ∈ M, 0 < t.2.1) → 0 < lcms b M
  | [], b, h, _ => h
  | t :: r, b, h, ht => by
    have h1 := ht t List.mem_cons_self
    refine lcms_pos r _ ?_ fun x hx => ht x (List.mem_cons_of_mem _ hx)
    have : 0 < b.natAbs.lcm t.2.1.natAbs := Nat.lcm_pos (by omega) (by omega)
    show 0 < ((b.natAbs.lcm t.2.1.natAbs : Nat) : Int)
    omega
theorem lcms_dvd : ∀ (M : List Tm) (b : Int), b ∣ lcms b M ∧ ∀ t ∈ M, t.2.1 ∣ lcms b M
  | [], b => ⟨Int.dvd_refl b, by simp⟩
  | t :: r, b => by
    obtain ⟨h1, h2⟩ := lcms_dvd r ((b.natAbs.lcm t.2.1.natAbs : Nat) : Int)
    have db : b ∣ ((b.natAbs.lcm t.2.1.natAbs : Nat) : Int) := Int.natAbs_dvd_natAbs.mp (by rw [Int.natAbs_natCast]; exact Nat.dvd_lcm_left _ _)
    have dt : t.2.1 ∣ ((b.natAbs.lcm t.2.1.natAbs : Nat) : Int) := Int.natAbs_dvd_natAbs.mp (by rw [Int.natAbs_natCast]; exact Nat.dvd_lcm_right _ _)
    refine ⟨Int.dvd_trans db h1, fun x hx => ?_⟩
    rcases List.mem_cons.mp hx with e | hx
    · rw [e]; exact Int.dvd_trans dt h1
    · exact h2 x hx
theorem lcms_take_le {M : List Tm} {i : Nat} (h : ∀ t ∈ M, 0 < t.2.1) : lcms 1 (M.take i) ≤ lcms 1 M := by
  have e : lcms 1 M = lcms (lcms 1 (M.take i)) (M.drop i) := by
    conv => lhs; rw [← List.take_append_drop i M]
    unfold lcms; rw [List.foldl_append]
  have h0 := lcms_pos M 1 (by omega) h
  refine Int.le_of_dvd h0 ?_
  rw [e]; exact (lcms_dvd _ _).1
/-- what the sum has at p -/
def cf (B : Int) (M : List Tm) (p : Int) : Int := (M.map fun t => t.1 * (B / t.2.1) * ig t.2.2 p).sum
theorem cf_snoc (B : Int) (M : List Tm) (t : Tm) (p : Int) : cf B (M ++ [t]) p = cf B M p + t.1 * (B / t.2.1) * ig t.2.2 p := by
  unfold cf; rw [List.map_append, List.sum_append]; simp
section
variable {P : Program} {w : World} {K : PySem.W.Frag} {mg : Str → Option Value} {base : Heap}
def TmAt (K : PySem.W.Frag) (H : Hp) (r : Addr) (t : Tm) : Prop := ∃ v, SqT K H r [.int t.1, v] ∧ AmtAt K H v t.2.1 t.2.2
theorem TmAt.same {H H' : Hp} {r : Addr} {t : Tm} (s : Same H H') (h : TmAt K H r t) : TmAt K H' r t := by
  obtain ⟨v, h1, h2⟩ := h
  exact ⟨v, SqT.same s h1, h2.same s⟩
structure TmOk (t : Tm) : Prop where
  cn : Cn t.2.1 t.2.2
  fac : t.1.natAbs < 2 ^ 20
  key : ∀ q ∈ t.2.2, q.1 ≤ 1000
  par : ∀ q ∈ t.2.2, q.2.natAbs < 2 ^ 64
def spCombined (K : PySem.W.Frag) : Sp := fun vs H Q _ => ∃ (a : Addr) (rs : List Addr) (M : List Tm), vs = [.ref a] ∧ SqL K H a (rs.map V.ref) ∧ Paired (TmAt K H) rs M ∧ (∀ t ∈ M, TmOk t) ∧ lcms 1 M < 2 ^ 64 ∧
  ∀ v d L H', Same H H' → AmtAt K H' v d L → St4 d L (lcms 1 M) (cf (lcms 1 M) M) → Q v H'
theorem asc_look {L : List (Int × Int)} (h : L.Pairwise (fun a b => a.1 < b.1)) {j : Nat} {u : Int × Int} (hu : L[j]? = some u) : ig (L.take j) u.1 = 0 := by
  apply ig_none
  intro x hx z
  have nd := asc_nodup h
  have hj : j < L.length := (List.getElem?_eq_some_iff.mp hu).1
  have e1 : L = L.take j ++ u :: L.drop (j + 1) := by
    conv => lhs; rw [← List.take_append_drop j L]
    congr 1
    rw [List.drop_eq_getElem_cons hj]
    congr 1
    exact (List.getElem?_eq_some_iff.mp hu).2
  rw [e1, List.map_append, List.nodup_append] at nd
  exact nd.2.2 _ (List.mem_map.mpr ⟨x, hx, rfl⟩) _ (by rw [List.map_cons]; exact List.mem_cons_self) z
theorem ca_combined (T : Tx K mg) : Ca P w K mg base 2 "combined" s_combined ["pairs"] (spCombined K) := by
  have C_amount_from := ca_amount_from (P := P) (w := w) (base := base) T
  refine Ca.of (fd_combined T) sc_combined ?_ ?_
  · rintro vs H Q E ⟨a, rs, M, rfl, _⟩; rfl
  · rintro f cdv A out s H vs Q E hr ⟨a, rs, M, rfl, hS, hP, hM, hB, q⟩
    have dpos : ∀ t ∈ M, 0 < t.2.1 := fun t ht => (hM t ht).cn.d1
    have B0 := lcms_pos M 1 (by omega) dpos
    refine ⟨_, (pss_cons (ps_set (i := 1) sc_combined.nd rfl (.inl rfl) pe_int)
 (pss_cons (ps_for PassesOwn.never rfl (pi_list (pv 0)) (pg_tup rfl (pgs_cons (pg_name (i := 2) sc_combined.nd rfl (.inl rfl)) (pgs_cons (pg_name (i := 3) sc_combined.nd rfl (.inl rfl)) pgs_nil)))
 (pss_one (ps_set (i := 1) sc_combined.nd rfl (.inl rfl) (pe_callBfun cr_lcm (by rfl) T.b_lcm (pa_cons (pv 1) (pa_cons (pe_ix ix_tup (pv 3) pe_int (fun _ _ => rfl)) pa_nil))))))
 (pss_cons (ps_set (i := 4) sc_combined.nd rfl (.inl rfl) pe_dnewK)
 (pss_cons (ps_for PassesOwn.never rfl (pi_list (pv 0)) (pg_tup rfl (pgs_cons (pg_name (i := 5) sc_combined.nd rfl (.inl rfl)) (pgs_cons (pg_name (i := 3) sc_combined.nd rfl (.inl rfl)) pgs_nil)))
 (pss_cons (ps_set (i := 6) sc_combined.nd rfl (.inl rfl) (pe_op op_mulW (pv 5) (pe_op op_fdivW (pv 1) (pe_ix ix_tup (pv 3) pe_int (fun _ _ => rfl)))))
 (pss_one (ps_for PassesOwn.never rfl (pi_tup (pe_ix ix_tup (pv 3) pe_int (fun _ _ => rfl))) (pg_tup rfl (pgs_cons (pg_name (i := 7) sc_combined.nd rfl (.inl rfl)) (pgs_cons (pg_name (i := 8) sc_combined.nd rfl (.inl rfl)) pgs_nil)))
 (pss_one (ps_dput (hu_of hr) (pv 4) (pv 7) (pe_op op_add (pe_dget2 (hu_of hr) (pv 4) (pv 7) pe_int ⟨rfl, rfl, rfl, rfl⟩) (pe_op op_mulW (pv 8) (pv 6))) rfl))))))
 (pss_one (ps_ret (pe_ca C_amount_from hr (pa_cons (pv 1) (pa_cons (pv 4) pa_nil))))))))), ?_⟩
    refine ⟨_, rfl, a, rfl, ⟨_, hS⟩, ?_⟩
    have rl : rs.length = M.length := Paired.length hP
    refine for_list (xs := rs.map V.ref) (fun i σ H' => ∃ y2 y3, σ = [some (.ref a), some (.int (lcms 1 (M.take i))), y2, y3, none, none, none, none, none] ∧ Same H H') ⟨_, _, rfl, Same.refl H⟩ ?_ ?_ ?_
    · rintro i σ H' _ ⟨_, _, _, sm⟩; exact sm.seq hS
    · rintro i x σ H1 hx ⟨y2, y3, rfl, sm⟩
      obtain ⟨r, hr1, rfl⟩ := map_at hx
      obtain ⟨t, ht, v, h1, h2⟩ := Paired.at' hP hr1
      have tm := List.mem_of_getElem? ht
      obtain ⟨a2, b2, rs2, e2, h3, h4, h5⟩ := h2.same sm
      refine ⟨r, _, rfl, SqT.same sm h1, rfl, _, _, rfl, _, [], rfl, rfl, ?_⟩
      have l1 := lcms_take_le (i := i) dpos
      have l2 := lcms_take_le (i := i + 1) dpos
      have d1 := (hM t tm).cn.d1
      have d2 : t.2.1 ≤ lcms 1 M := Int.le_of_dvd B0 ((lcms_dvd M 1).2 t tm)
      have l0 := lcms_pos (M.take i) 1 (by omega) fun x hx => dpos x (List.mem_of_mem_take hx)
      subst e2
      refine ⟨_, rfl, _, rfl, a2, _, 0, _, rfl, rfl, h3, atI_nat (j := 0) rfl, _, _, rfl, by omega, by omega, ?_⟩
      refine ⟨some (.int t.1), some (.ref a2), ?_, sm⟩
      rw [show M.take (i + 1) = M.take i ++ [t] by rw [List.take_add_one, ht]; rfl, lcms_snoc]
      rfl
    · rintro σ H1 ⟨y2, y3, rfl, sm⟩
      rw [List.length_map, rl, List.take_of_length_le (Nat.le_refl _)]
      generalize eB : lcms 1 M = B at *
      intro D nD1
      have nD : H D = none := sm.free nD1
      refine ⟨_, rfl, a, rfl, ⟨_, (sm.trans (same_new nD1)).seq hS⟩, ?_⟩
      refine for_list (xs := rs.map V.ref) (fun i σ H' => ∃ L y2 y3 y5 y6 y7 y8, σ = [some (.ref a), some (.int B), y2, y3, some (.ref D), y5, y6, y7, y8] ∧ H' D = some (.dK (kd L)) ∧ KeyOk L ∧ (∀ q ∈ L, q.1 ≤ 1000) ∧ (∀ p, ig L p = cf B (M.take i) p) ∧ Same H H') ?_ ?_ ?_ ?_
      · refine ⟨[], y2, y3, none, none, none, none, rfl, upd_same, ⟨List.nodup_nil, by simp⟩, by simp, fun p => ?_, sm.trans (same_new nD1)⟩
        rw [List.take_zero]; rfl
      · rintro i σ H' _ ⟨_, _, _, _, _, _, _, _, _, _, _, _, sm⟩; exact sm.seq hS
      · rintro i x σ H2 hx ⟨L, z2, z3, z5, z6, z7, z8, rfl, hD, ko, kl, hv, sm2⟩
        obtain ⟨r, hr1, rfl⟩ := map_at hx
        obtain ⟨t, ht, v, h1, h2⟩ := Paired.at' hP hr1
        have tm := List.mem_of_getElem? ht
        obtain ⟨a2, b2, rs2, e2, h3, h4, h5⟩ := h2.same sm2
        have ok := hM t tm
        have d1 := ok.cn.d1
        have d2 : t.2.1 ≤ B := by rw [← eB]; exact Int.le_of_dvd (by rw [eB]; exact B0) ((lcms_dvd M 1).2 t tm)
        subst e2
        refine ⟨r, _, rfl, SqT.same sm2 h1, rfl, _, _, rfl, _, [], rfl, rfl, ?_⟩
        have Bd : (B / t.2.1).natAbs < 2 ^ 64 := by
          have h6 : B / t.2.1 ≤ B := Int.ediv_le_self _ (by omega)
          have h7 : 0 ≤ B / t.2.1 := Int.ediv_nonneg (by omega) (by omega)
          omega
        refine ⟨_, rfl, _, rfl, _, rfl, a2, _, 0, _, rfl, rfl, h3, atI_nat (j := 0) rfl, _, _, rfl, rfl, wide_div d1 (b := 64) (by omega) (by omega) (by omega), _, _, rfl, rfl, wide_mul ok.fac Bd (by omega) (by omega) (by omega), ?_⟩
        refine ⟨_, rfl, a2, _, 1, _, rfl, rfl, h3, atI_nat (j := 1) rfl, _, rfl, ⟨_, h4⟩, ?_⟩
        refine for_tup (xs := rs2.map V.ref) (fun j σ H' => ∃ L' y7 y8, σ = [some (.ref a), some (.int B), z2, some (.ref a2), some (.ref D), some (.int t.1), some (.int (t.1 * (B / t.2.1))), y7, y8] ∧ H' D = some (.dK (kd L')) ∧ KeyOk L' ∧ (∀ q ∈ L', q.1 ≤ 1000) ∧
            (∀ p, ig L' p = ig L p + t.1 * (B / t.2.1) * ig (t.2.2.take j) p) ∧ Same H H' ∧ SqT K H' b2 (rs2.map V.ref) ∧ PairsAt K H' rs2 t.2.2) ?_ ?_ ?_ ?_
        · refine ⟨L, z7, z8, rfl, hD, ko, kl, fun p => ?_, sm2, h4, h5⟩
          rw [List.take_zero, show ig [] p = 0 from rfl, Int.mul_zero, Int.add_zero]
        · rintro j σ H' _ ⟨_, _, _, _, _, _, _, _, _, h, _⟩; exact h
        · rintro j x σ H3 hx ⟨L', y7, y8, rfl, hD3, ko3, kl3, hv3, s3, h43, h53⟩
          obtain ⟨r2, hr2, rfl⟩ := map_at hx
          obtain ⟨u, hu, hut⟩ := Paired.at' h53 hr2
          have um := List.mem_of_getElem? hu
          obtain ⟨pn, pe, pp, pl⟩ := ok.cn.pr u um
          have lenL : L'.length ≤ 1000 + 1 := ko3.len (m := 1000) kl3
          refine ⟨r2, _, rfl, hut, rfl, _, _, rfl, _, [], rfl, rfl, ?_⟩
          refine ⟨_, rfl, D, rfl, .inl ⟨_, .inl hD3⟩, _, rfl, _, DGet.k (k := Sum.inl u.1) hD3, _, rfl, _, rfl, _, _, rfl, rfl, wide_mul (a := 64) (b := 84) (ok.par u um) (wide_lt (a := 20) (b := 64) ok.fac Bd) (by omega) (by omega) (by omega), ?_⟩
          refine ⟨_, _, kd_getD _ _, rfl, _, rfl, _, rfl, D, _, rfl, DPut.k (k := Sum.inl u.1) hD3 (by rw [kd_len, sizeLine_eq]; omega), ?_⟩
          have kp3 : Kp H3 (upd H3 D (.dK (putK (kd L') (Sum.inl u.1) (V.int (ig L' u.1 + u.2 * (t.1 * (B / t.2.1))))))) := fun b o e _ n2 => by
            by_cases h : b = D
            · subst h; rw [hD3] at e; exact absurd (Option.some.inj e).symm (n2 _)
            · rw [upd_ne h]; exact e
          refine ⟨ip L' u.1 (ig L' u.1 + u.2 * (t.1 * (B / t.2.1))), _, _, rfl, ?_, ?_, ?_, fun p => ?_, same_write nD s3, SqT.kp kp3 h43, h53.kp kp3⟩
          · rw [upd_same, kd_put]
          · rw [pe]; exact ko3.put _ pp pl
          · intro y hy
            rcases ip_keys (List.mem_map.mpr ⟨y, hy, rfl⟩) with e | e
            · rw [e]; exact ok.key u um
            · obtain ⟨x, hx, e⟩ := List.mem_map.mp e
              rw [← e]; exact kl3 x hx
          · rw [ig_ip, ig_take (asc_nodup ok.cn.asc) hu]
            by_cases e : p = u.1
            · rw [if_pos e, if_pos e, hv3, e, asc_look ok.cn.asc hu, Int.mul_zero, Int.add_zero, Int.mul_comm u.2]
            · rw [if_neg e, if_neg e, hv3]
        · rintro σ H3 ⟨L', y7, y8, rfl, hD3, ko3, kl3, hv3, s3, _, h53⟩
          refine ⟨L', _, _, _, _, _, _, rfl, hD3, ko3, kl3, fun p => ?_, s3⟩
          have l2 : rs2.length = t.2.2.length := Paired.length h53
          rw [hv3, hv, List.length_map, l2, List.take_of_length_le (Nat.le_refl _), show M.take (i + 1) = M.take i ++ [t] by rw [List.take_add_one, ht]; rfl, cf_snoc]
      · rintro σ H2 ⟨L, _, _, _, _, _, _, rfl, hD, ko, kl, hv, sm2⟩
        rw [List.length_map, rl, List.take_of_length_le (Nat.le_refl _)] at hv
        have lenL : L.length ≤ 1000 + 1 := ko.len (m := 1000) kl
        refine ⟨_, rfl, _, rfl, B, D, L, rfl, B0, hB, hD, ko, by omega, fun v d L' H3 s3 am st => q v d L' H3 (sm2.trans s3) am ⟨st.1, fun p => by rw [← hv]; exact st.2 p⟩⟩
end
end K02

namespace K02
open PySem PySem.Spec PyProof.Rows L2 Ly Am
/-- the product of the powers above, below -/
def up (k : Nat) : List (Int × Int) → Int
  | [] => 1
  | q :: r => (if 0 < q.2 then q.1 ^ (k * q.2.natAbs) else 1) * up k r
def dn (k : Nat) : List (Int × Int) → Int
  | [] => 1
  | q :: r => (if 0 < q.2 then 1 else q.1 ^ (k * q.2.natAbs)) * dn k r
theorem up_snoc (k : Nat) (q : Int × Int) : ∀ L, up k (L ++ [q]) = up k L * (if 0 < q.2 then q.1 ^ (k * q.2.natAbs) else 1)
  | [] => by simp [up]
  | x :: r => by rw [List.cons_append]; show _ * up k (r ++ [q]) = _; rw [up_snoc k q r]; show _ = (_ * up k r) * _; rw [Int.mul_assoc]
theorem dn_snoc (k : Nat) (q : Int × Int) : ∀ L, dn k (L ++ [q]) = dn k L * (if 0 < q.2 then 1 else q.1 ^ (k * q.2.natAbs))
  | [] => by simp [dn]
  | x :: r => by rw [List.cons_append]; show _ * dn k (r ++ [q]) = _; rw [dn_snoc k q r]; show _ = (_ * dn k r) * _; rw [Int.mul_assoc]
/-- what the exponents add up to -/
def cost (L : List (Int × Int)) : Nat := (L.map fun q => q.2.natAbs).sum
theorem pw_bits {p : Int} {n k c : Nat} (h : p.natAbs < 2 ^ n) : (if True then p ^ (k * c) else 1).natAbs < 2 ^ (n * (k * c) + 1) := by
  rw [if_pos trivial]; exact pow_bits h _
theorem up_bits {n k : Nat} : ∀ {L : List (Int × Int)}, (∀ q ∈ L, q.1.natAbs < 2 ^ n) → (up k L).natAbs < 2 ^ (n * (k * cost L) + L.length + 1)
  | [], _ => by show (1 : Nat) < _; exact Nat.one_lt_two_pow (by omega)
  | q :: r, h => by
    have ih := up_bits (k := k) (L := r) fun z hz => h z (List.mem_cons_of_mem _ hz)
    have h1 : ((if 0 < q.2 then q.1 ^ (k * q.2.natAbs) else 1)).natAbs < 2 ^ (n * (k * q.2.natAbs) + 1) := by
      split
      · exact pow_bits (h q List.mem_cons_self) _
      · exact Nat.one_lt_two_pow (by omega)
    have h2 := wide_lt h1 ih
    have e : n * (k * q.2.natAbs) + 1 + (n * (k * cost r) + r.length + 1) = n * (k * cost (q :: r)) + (q :: r).length + 1 := by
      have : cost (q :: r) = q.2.natAbs + cost r := by unfold cost; rw [List.map_cons, List.sum_cons]
      rw [this, List.length_cons, Nat.mul_add, Nat.mul_add]; omega
    rw [e] at h2
    exact h2
theorem dn_bits {n k : Nat} : ∀ {L : List (Int × Int)}, (∀ q ∈ L, q.1.natAbs < 2 ^ n) → (dn k L).natAbs < 2 ^ (n * (k * cost L) + L.length + 1)
  | [], _ => by show (1 : Nat) < _; exact Nat.one_lt_two_pow (by omega)
  | q :: r, h => by
    have ih := dn_bits (k := k) (L := r) fun z hz => h z (List.mem_cons_of_mem _ hz)
    have h1 : ((if 0 < q.2 then 1 else q.1 ^ (k * q.2.natAbs))).natAbs < 2 ^ (n * (k * q.2.natAbs) + 1) := by
      split
      · exact Nat.one_lt_two_pow (by omega)
      · exact pow_bits (h q List.mem_cons_self) _
    have h2 := wide_lt h1 ih
    have e : n * (k * q.2.natAbs) + 1 + (n * (k * cost r) + r.length + 1) = n * (k * cost (q :: r)) + (q :: r).length + 1 := by
      have : cost (q :: r) = q.2.natAbs + cost r := by unfold cost; rw [List.map_cons, List.sum_cons]
      rw [this, List.length_cons, Nat.mul_add, Nat.mul_add]; omega
    rw [e] at h2
    exact h2
theorem cost_take (L : List (Int × Int)) (i : Nat) : cost (L.take i) ≤ cost L := by
  conv => rhs; rw [← List.take_append_drop i L]
  unfold cost
  rw [List.map_append, List.sum_append]; omega
theorem cost_mem {L : List (Int × Int)} {q : Int × Int} (h : q ∈ L) : q.2.natAbs ≤ cost L := by
  induction L with
  | nil => cases h
  | cons x r ih =>
    unfold cost; rw [List.map_cons, List.sum_cons]
    rcases List.mem_cons.mp h with e | h
    · rw [e]; omega
    · have := ih h; unfold cost at this; omega
/-- the products can be worked out -/
structure Fits (n k : Nat) (L : List (Int × Int)) : Prop where
  pos : ∀ q ∈ L, 0 < q.1 ∧ q.1 < 2 ^ n
  one : ∀ q ∈ L, n * (2 * (k * q.2.natAbs)) ≤ 400000
  all : n * (k * cost L) + L.length ≤ 450000
  k20 : k < 2 ^ 20
  ex : ∀ q ∈ L, q.2.natAbs < 2 ^ 64
section
variable {P : Program} {w : World} {K : PySem.W.Frag} {mg : Str → Option Value} {base : Heap}
def spProducts (K : PySem.W.Frag) : Sp := fun vs H Q _ => ∃ (b : Addr) (rs : List Addr) (L : List (Int × Int)) (k n : Nat), vs = [.ref b, .int k] ∧ SqT K H b (rs.map V.ref) ∧ PairsAt K H rs L ∧ Fits n k L ∧
  ∀ t H', Same H H' → SqT K H' t [.int (up k L), .int (dn k L)] → Q (.ref t) H'
theorem ca_products_of (T : Tx K mg) : Ca P w K mg base 2 "products_of" s_products_of ["parts", "k"] (spProducts K) := by
  have C_power := ca_power (P := P) (w := w) (base := base) T
  refine Ca.of (fd_products_of T) sc_products_of ?_ ?_
  · rintro vs H Q E ⟨b, rs, L, k, n, rfl, _⟩; rfl
  · rintro f cdv A out s H vs Q E hr ⟨b, rs, L, k, n, rfl, hT, hP, hF, q⟩
    refine ⟨_, (pss_cons (ps_set (i := 2) sc_products_of.nd rfl (.inl rfl) pe_int)
 (pss_cons (ps_set (i := 3) sc_products_of.nd rfl (.inl rfl) pe_int)
 (pss_cons (ps_for PassesOwn.never rfl (pi_tup (pv 0)) (pg_tup rfl (pgs_cons (pg_name (i := 4) sc_products_of.nd rfl (.inl rfl)) (pgs_cons (pg_name (i := 5) sc_products_of.nd rfl (.inl rfl)) pgs_nil)))
 (pss_one (ps_if (pt_cmpR op_gt (pv 5) pe_int (nomark _))
 (pss_one (ps_set (i := 2) sc_products_of.nd rfl (.inl rfl) (pe_op op_mulW (pv 2) (pe_ca C_power hr (pa_cons (pv 4) (pa_cons (pe_op op_mulW (pv 1) (pv 5)) pa_nil))))))
 (pss_one (ps_set (i := 3) sc_products_of.nd rfl (.inl rfl) (pe_op op_mulW (pv 3) (pe_ca C_power hr (pa_cons (pv 4) (pa_cons (pe_op op_mulW (pe_un un_neg (pv 1)) (pv 5)) pa_nil)))))))))
 (pss_one (ps_ret (pe_tup (pa_cons (pv 2) (pa_cons (pv 3) pa_nil)))))))), ?_⟩
    refine ⟨_, rfl, b, rfl, ⟨_, hT⟩, ?_⟩
    have rl : rs.length = L.length := Paired.length hP
    refine for_tup (xs := rs.map V.ref) (fun i σ H' => ∃ y4 y5, σ = [some (.ref b), some (.int k), some (.int (up k (L.take i))), some (.int (dn k (L.take i))), y4, y5] ∧ H' = H) ⟨none, none, rfl, rfl⟩ ?_ ?_ ?_
    · rintro i σ H' _ ⟨_, _, _, rfl⟩; exact hT
    · rintro i x σ H' hx ⟨y4, y5, rfl, rfl⟩
      obtain ⟨r, hr1, rfl⟩ := map_at hx
      obtain ⟨u, hu, hut⟩ := Paired.at' hP hr1
      have um := List.mem_of_getElem? hu
      obtain ⟨p0, pn⟩ := hF.pos u um
      have one := hF.one u um
      have ba : ∀ q ∈ L.take i, q.1.natAbs < 2 ^ n := fun q hq => by
        obtain ⟨a1, a2⟩ := hF.pos q (List.mem_of_mem_take hq)
        have e2 : ((2 : Int) ^ n) = ((2 ^ n : Nat) : Int) := by simp
        omega
      have pb : u.1.natAbs < 2 ^ n := by
        have e2 : ((2 : Int) ^ n) = ((2 ^ n : Nat) : Int) := by simp
        omega
      have ub := up_bits (k := k) ba
      have db := dn_bits (k := k) ba
      have pw := pow_bits pb (k * u.2.natAbs)
      have len : (L.take i).length ≤ L.length := by rw [List.length_take]; omega
      have cs : n * (k * cost (L.take i)) ≤ n * (k * cost L) := Nat.mul_le_mul_left _ (Nat.mul_le_mul_left _ (cost_take L i))
      have cm : n * (k * u.2.natAbs) ≤ n * (k * cost L) := Nat.mul_le_mul_left _ (Nat.mul_le_mul_left _ (cost_mem um))
      have all := hF.all
      have tk : L.take (i + 1) = L.take i ++ [u] := by rw [List.take_add_one, hu]; rfl
      have kx := hF.k20
      have ex := hF.ex u um
      refine ⟨r, _, rfl, hut, rfl, _, _, rfl, _, [], rfl, rfl, ?_⟩
      refine ⟨_, rfl, _, _, rfl, rfl, _, rfl, ite2 (fun c => ?_) (fun c => ?_)⟩
      · have c' : 0 < u.2 := of_decide_eq_true c
        have e1 : (k : Int) * u.2 = ((k * u.2.natAbs : Nat) : Int) := by
          rw [Int.natCast_mul]; congr 1; omega
        refine ⟨_, rfl, _, rfl, _, rfl, _, rfl, _, _, rfl, rfl, wide_mul (a := 20) (b := 64) (by omega) ex (by omega) (by omega) (by omega), u.1, k * u.2.natAbs, n, by show [V.int u.1, V.int ((k : Int) * u.2)] = _; rw [e1], pb, one, ?_⟩
        refine ⟨_, _, rfl, rfl, wide_mul ub pw (by omega) (by omega) (by omega), some (.int u.1), some (.int u.2), ?_, rfl⟩
        rw [tk, up_snoc, dn_snoc, if_pos c', if_pos c', Int.mul_one]
        rfl
      · have c' : ¬ 0 < u.2 := fun z => c (decide_eq_true z)
        have e1 : (-(k : Int)) * u.2 = ((k * u.2.natAbs : Nat) : Int) := by
          rw [Int.natCast_mul, Int.neg_mul, ← Int.mul_neg]; congr 1; omega
        refine ⟨_, rfl, _, rfl, _, rfl, _, rfl, _, rfl, _, _, rfl, rfl, wide_mul (a := 20) (b := 64) (by omega) ex (by omega) (by omega) (by omega), u.1, k * u.2.natAbs, n, by show [V.int u.1, V.int ((-(k : Int)) * u.2)] = _; rw [e1], pb, one, ?_⟩
        refine ⟨_, _, rfl, rfl, wide_mul db pw (by omega) (by omega) (by omega), some (.int u.1), some (.int u.2), ?_, rfl⟩
        rw [tk, up_snoc, dn_snoc, if_neg c', if_neg c', Int.mul_one]
        rfl
    · rintro σ H' ⟨y4, y5, rfl, rfl⟩
      rw [List.length_map, rl, List.take_of_length_le (Nat.le_refl _)]
      refine ⟨_, rfl, _, rfl, by show 2 ≤ sizeLine; rw [sizeLine_eq]; omega, fun t nt => q t _ (same_new nt) sqT_new⟩
end
end K02

namespace K02
open PySem PySem.Spec PyProof.Rows L2 Ly Am
section
variable {P : Program} {w : World} {K : PySem.W.Frag} {mg : Str → Option Value} {base : Heap}
local macro_rules | `(tactic| walk_at "isint") => `(tactic| refine ⟨_, "int", true, false, rfl, tyx_int, by decide +kernel, by decide +kernel, ?_⟩)
/-- what the amounts of this law are within -/
structure AmOk (d : Int) (L : List (Int × Int)) : Prop where
  cn : Cn d L
  dl : d < 2 ^ 64
  key : ∀ q ∈ L, q.1 ≤ 1000
  par : ∀ q ∈ L, q.2.natAbs < 2 ^ 64
theorem keys_few {L : List (Int × Int)} {m : Nat} (nd : (L.map (·.1)).Nodup) (h : ∀ q ∈ L, 0 ≤ q.1 ∧ q.1 ≤ m) : L.length ≤ m + 1 := by
  have := nodup_le (m + 1) (L.map (·.1)) nd (by
    intro x hx
    obtain ⟨q, hq, rfl⟩ := List.mem_map.mp hx
    have := h q hq
    omega)
  rwa [List.length_map] at this
theorem AmOk.len {d : Int} {L : List (Int × Int)} (c : AmOk d L) : L.length ≤ 1001 :=
  keys_few (m := 1000) (asc_nodup c.cn.asc) fun q hq => ⟨by obtain ⟨p, e, _⟩ := c.cn.pr q hq; omega, c.key q hq⟩
def spIsPart (K : PySem.W.Frag) : Sp := fun vs H Q _ => ∃ (a : Addr) (p : Nat) (e : Int), vs = [.ref a] ∧ SqT K H a [.int p, .int e] ∧ Pr p ∧ p < 1000000 ∧ e ≠ 0 ∧ ∀ H', Same H H' → Q (.bl true) H'
theorem ca_is_part (T : Tx K mg) : Ca P w K mg base 3 "is_part" s_is_part ["thing"] (spIsPart K) := by
  have C_is_tuple_of := ca_is_tuple_of (P := P) (w := w) (base := base) T
  have C_is_integer := ca_is_integer (P := P) (w := w) (base := base) T
  have C_is_integer_in := ca_is_integer_in (P := P) (w := w) (base := base) T
  have C_is_prime := ca_is_prime (P := P) (w := w) (base := base) T
  refine Ca.of (fd_is_part T) sc_is_part ?_ ?_
  · rintro vs H Q E ⟨b, p, e, rfl, _⟩; rfl
  · rintro f cdv A out s H vs Q E hr ⟨b, p, e, rfl, hT, hp, hl, he, q⟩
    refine ⟨_, (pss_cons (ps_if (PW.pt (pw_or (pt_not (pt_val (pe_ca C_is_tuple_of hr (pa_cons (pv 0) (pa_cons pe_int pa_nil))))) (pw_or (pt_not (pt_val (pe_ca C_is_integer hr (pa_cons (pe_ix ix_tup (pv 0) pe_int (fun _ _ => rfl)) pa_nil)))) (pw_or1 (pt_cmpR op_eq (pe_ix ix_tup (pv 0) pe_int (fun _ _ => rfl)) pe_int (nomark _))))))
 (pss_one (ps_ret pe_bl))
 pss_nil)
 (pss_one (ps_ret (pe_and (pe_ca C_is_integer_in hr (pa_cons (pe_ix ix_tup (pv 0) pe_int (fun _ _ => rfl)) (pa_cons pe_int (pa_cons (pe_op op_sub (pe_globI T.i_ABOVE_PRIMES) pe_int) pa_nil)))) (pe_one (pe_ca C_is_prime hr (pa_cons (pe_ix ix_tup (pv 0) pe_int (fun _ _ => rfl)) pa_nil))))))), ?_⟩
    refine ⟨_, rfl, b, _, 2, rfl, hT, ?_⟩
    refine ⟨true, rfl, iteF ?_⟩
    refine ⟨_, rfl, b, _, 1, _, rfl, rfl, hT, atI_nat (j := 1) rfl, ?_⟩
    walk_at "isint"
    have e1 : decide (V.int e = V.int 0) = false := decide_eq_false fun z => he (V.int.inj z)
    refine ⟨true, rfl, iteF ?_⟩
    refine ⟨_, rfl, b, _, 1, _, rfl, rfl, hT, atI_nat (j := 1) rfl, rfl, _, rfl, ?_⟩
    rw [e1]
    refine iteF ?_
    refine ⟨_, rfl, b, _, 0, _, rfl, rfl, hT, atI_nat (j := 0) rfl, _, _, rfl, rfl, ?_⟩
    refine ⟨p, 2, _, rfl, ?_⟩
    have p2 := hp.two
    have e2 : decide ((2 : Int) ≤ (p : Int) ∧ (p : Int) ≤ 1000000 - 1) = true := decide_eq_true ⟨by omega, by omega⟩
    refine ⟨true, by rw [e2], iteT ?_⟩
    refine ⟨_, rfl, b, _, 0, _, rfl, rfl, hT, atI_nat (j := 0) rfl, p, rfl, by omega, fun bb H' s hb => ?_⟩
    have : bb = true := hb.mpr hp
    rw [this]
    exact q H' s
def spAsc (K : PySem.W.Frag) : Sp := fun vs H Q _ => ∃ (a : Addr) (ns : List Int), vs = [.ref a] ∧ SqL K H a (ns.map V.int) ∧ ns.Pairwise (· < ·) ∧ ns.length ≤ 2000 ∧ ∀ H', Same H H' → Q (.bl true) H'
theorem ca_is_ascending (T : Tx K mg) : Ca P w K mg base 1 "is_ascending" s_is_ascending ["items"] (spAsc K) := by
  refine Ca.of (fd_is_ascending T) sc_is_ascending ?_ ?_
  · rintro vs H Q E ⟨b, ns, rfl, _⟩; rfl
  · rintro f cdv A out s H vs Q E hr ⟨b, ns, rfl, hS, hA, hl, q⟩
    refine ⟨_, (pss_one (ps_ret (pe_callB (cr_all rfl) (by rfl) T.f_all (by decide +kernel) (pa_cons (pe_lc (own := [("one", 1), ("other", 2)]) rfl sc_is_ascending.nd (pi_zip (by rfl) T.f_zip (pa_cons (pv 0) (pa_cons (pe_slice sl_list (pv 0) (po_some pe_int) po_none) pa_nil))) (blkOk_by (own := [("one", 1), ("other", 2)]) (N := n_is_ascending) (sc := (defScope s_is_ascending)) (by decide +kernel)) (fun _ _ _ _ _ => (pg_tupK (K := K) 2 rfl (pgs_cons (pg_name (i := 1) sc_is_ascending.nd rfl (Or.inl rfl) (Or.inr rfl)) (pgs_cons (pg_name (i := 2) sc_is_ascending.nd rfl (Or.inl rfl) (Or.inr rfl)) pgs_nil)))) (fun _ _ _ _ _ => pts_nil) (fun _ _ _ _ _ => (pe_cmpR op_lt (pv 1) (pv 2) (nomark _)))) pa_nil)))), ?_⟩
    refine ⟨_, rfl, _, rfl, 1, rfl, b, _, rfl, hS, fun p np => ?_⟩
    have s1 := same_new (o := .lst (cutV (ns.map V.int) (some 1) none)) np
    have ec : cutV (ns.map V.int) (some 1) none = (ns.drop 1).map V.int := by
      unfold cutV
      cases ns with
      | nil => rfl
      | cons x r =>
        have e1 : HT.sIx ((x :: r).map V.int).length 0 (some 1) = 1 := by
          rw [List.length_map, List.length_cons]; simp [HT.sIx]
        have e2 : HT.sIx ((x :: r).map V.int).length ((x :: r).map V.int).length none = ((x :: r).map V.int).length := rfl
        rw [e1, e2, List.take_of_length_le (by rw [List.length_drop]; omega), List.map_drop]
    rw [ec] at s1 ⊢
    refine ⟨b, p, _, _, rfl, s1.seq hS, sqL_new, fun D nD => ?_⟩
    have len : ns.length - 1 = min (ns.map V.int).length ((ns.drop 1).map V.int).length := by
      rw [List.length_map, List.length_map, List.length_drop]; omega
    generalize e1 : upd H p (HO.lst ((ns.drop 1).map V.int)) = H1 at *
    have hp : SqL K H1 p ((ns.drop 1).map V.int) := by rw [← e1]; exact sqL_new
    refine lc_it (walk_zip (xs := ns.map V.int) (ys := (ns.drop 1).map V.int) len) (fun i H' => Same H1 H' ∧ H' D = some (.lst ((List.replicate i true).map V.bl))) ?_ ?_ ?_ ?_
    · exact ⟨same_new nD, upd_same⟩
    · rintro i H' _ ⟨sm, _⟩; exact ⟨sm.seq (s1.seq hS), sm.seq hp⟩
    · rintro i x H' H2 hi ⟨sm, hD⟩ ⟨t, x1, x2, rfl, nt, rfl, g1, g2⟩
      obtain ⟨u, hu, rfl⟩ := map_at g1
      obtain ⟨v, hv, rfl⟩ := map_at g2
      have s3 := same_new (o := .tup [V.int u, V.int v]) nt
      refine ⟨t, _, rfl, sqT_new, rfl, _, _, rfl, _, [], rfl, rfl, rfl, ?_⟩
      refine ⟨_, rfl, _, rfl, u, v, rfl, rfl, _, s3 _ _ hD, ?_, same_write nD (sm.trans s3), ?_⟩
      · rw [List.length_map, List.length_replicate, sizeLine_eq]
        omega
      · have lt : u < v := by
          rw [List.getElem?_drop] at hv
          have a1 := List.getElem?_eq_some_iff.mp hu
          have a2 := List.getElem?_eq_some_iff.mp hv
          obtain ⟨b1, c1⟩ := a1
          obtain ⟨b2, c2⟩ := a2
          have := List.pairwise_iff_getElem.mp hA i (1 + i) b1 b2 (by omega)
          rw [c1, c2] at this; exact this
        show upd _ D _ D = _
        rw [upd_same, List.replicate_succ', List.map_append]
        show some (HO.lst (_ ++ [V.bl (decide (u < v))])) = _
        rw [decide_eq_true lt]; rfl
    · rintro H2 ⟨sm, hD⟩
      refine ⟨D, _, rfl, .inl (.inl hD), ?_⟩
      have e : (List.replicate (ns.length - 1) true).all id = true := by simp
      have z := q H2 (s1.trans sm)
      rw [← e] at z; exact z
end
end K02

namespace K02
open PySem PySem.Spec PyProof.Rows L2 Ly Am
section
variable {P : Program} {w : World} {K : PySem.W.Frag} {mg : Str → Option Value} {base : Heap}
local macro_rules | `(tactic| walk_at "isint") => `(tactic| refine ⟨_, "int", true, false, rfl, tyx_int, by decide +kernel, by decide +kernel, ?_⟩)
def spIsAmount (K : PySem.W.Frag) : Sp := fun vs H Q _ => ∃ (v : V) (d : Int) (L : List (Int × Int)), vs = [v] ∧ AmtAt K H v d L ∧ AmOk d L ∧ ∀ H', Same H H' → Q (.bl true) H'
def spReqAmount (K : PySem.W.Frag) : Sp := fun vs H Q _ => ∃ (v : V) (d : Int) (L : List (Int × Int)), vs = [v] ∧ AmtAt K H v d L ∧ AmOk d L ∧ ∀ H', Same H H' → Q .non H'
theorem ca_is_amount (T : Tx K mg) : Ca P w K mg base 4 "is_amount" s_is_amount ["thing"] (spIsAmount K) := by
  have C_is_tuple_of := ca_is_tuple_of (P := P) (w := w) (base := base) T
  have C_is_integer := ca_is_integer (P := P) (w := w) (base := base) T
  have C_is_part := ca_is_part (P := P) (w := w) (base := base) T
  have C_is_ascending := ca_is_ascending (P := P) (w := w) (base := base) T
  refine Ca.of (fd_is_amount T) sc_is_amount ?_ ?_
  · rintro vs H Q E ⟨v, d, L, rfl, _⟩; rfl
  · rintro f cdv A out s H vs Q E hr ⟨_, d, L, rfl, ⟨a, b, rs, rfl, h1, h2, h3⟩, ok, q⟩
    refine ⟨_, (pss_cons (ps_if (pt_not (pt_val (pe_ca C_is_tuple_of hr (pa_cons (pv 0) (pa_cons pe_int pa_nil)))))
 (pss_one (ps_ret pe_bl))
 pss_nil)
 (pss_cons (ps_asg (pv 0) (pg_tup rfl (pgs_cons (pg_name (i := 1) sc_is_amount.nd rfl (.inl rfl)) (pgs_cons (pg_name (i := 2) sc_is_amount.nd rfl (.inl rfl)) pgs_nil))))
 (pss_cons (ps_if (PW.pt (pw_or (pt_not (pt_val (pe_ca C_is_integer hr (pa_cons (pv 1) pa_nil)))) (pw_or (pt_cmpR op_lt (pv 1) pe_int (nomark _)) (pw_or1 (pt_not (pt_val (pe_callB call_isi (by rfl) T.f_isinstance (by decide +kernel) (pa_cons (pv 2) (pa_cons (pe_bltn (v := .ty "tuple") (by rfl) T.f_tuple (by decide +kernel) rfl) pa_nil)))))))))
 (pss_one (ps_ret pe_bl))
 pss_nil)
 (pss_cons (ps_if (pt_not (pt_val (pe_callB (cr_all rfl) (by rfl) T.f_all (by decide +kernel) (pa_cons (pe_lc (own := [("part", 3)]) rfl sc_is_amount.nd (pi_tup (pv 2)) (blkOk_by (own := [("part", 3)]) (N := n_is_amount) (sc := (defScope s_is_amount)) (by decide +kernel)) (fun _ _ _ _ _ => (pg_name (i := 3) sc_is_amount.nd rfl (Or.inl rfl) (Or.inr rfl))) (fun _ _ _ _ _ => pts_nil) (fun _ _ _ _ _ => (pe_ca C_is_part hr (pa_cons (pv 3) pa_nil)))) pa_nil))))
 (pss_one (ps_ret pe_bl))
 pss_nil)
 (pss_cons (ps_set (i := 4) sc_is_amount.nd rfl (.inl rfl) (pv 1))
 (pss_cons (ps_for PassesOwn.never rfl (pi_tup (pv 2)) (pg_name (i := 3) sc_is_amount.nd rfl (.inl rfl))
 (pss_one (ps_set (i := 4) sc_is_amount.nd rfl (.inl rfl) (pe_callBfun cr_gcd (by rfl) T.b_gcd (pa_cons (pv 4) (pa_cons (pe_ix ix_tup (pv 3) pe_int (fun _ _ => rfl)) pa_nil))))))
 (pss_one (ps_ret (pe_and (pe_cmpR op_eq (pv 4) pe_int (nomark _)) (pe_one (pe_ca C_is_ascending hr (pa_cons (pe_lc (own := [("part", 3)]) rfl sc_is_amount.nd (pi_tup (pv 2)) (blkOk_by (own := [("part", 3)]) (N := n_is_amount) (sc := (defScope s_is_amount)) (by decide +kernel)) (fun _ _ _ _ _ => (pg_name (i := 3) sc_is_amount.nd rfl (Or.inl rfl) (Or.inr rfl))) (fun _ _ _ _ _ => pts_nil) (fun _ _ _ _ _ => (pe_ix (ix_tupK (K := K)) (pv 3) pe_int (fun _ _ => rfl)))) pa_nil)))))))))))), ?_⟩
    have d1 := ok.cn.d1
    have rl : rs.length = L.length := Paired.length h3
    have ll := ok.len
    refine ⟨_, rfl, a, _, 2, rfl, h1, ?_⟩
    refine ⟨_, rfl, iteF ?_⟩
    refine ⟨_, rfl, a, _, rfl, h1, rfl, _, _, rfl, _, [], rfl, rfl, ?_⟩
    refine ⟨_, rfl, ?_⟩
    walk_at "isint"
    refine ⟨true, rfl, iteF ?_⟩
    have e1 : decide (d < (1 : Int)) = false := decide_eq_false (by omega)
    refine ⟨_, rfl, _, _, rfl, rfl, _, rfl, ?_⟩
    rw [e1]
    refine iteF ?_
    refine ⟨_, rfl, _, .ty "tuple", _, _, true, rfl, .ty "tuple", tyx_tup h2, kit_ty (by decide +kernel), true, rfl, iteF ?_⟩
    refine ⟨_, rfl, b, rfl, ⟨_, h2⟩, fun D nD => ?_⟩
    refine lc_tup (xs := rs.map V.ref) (fun i H' => Same H H' ∧ H' D = some (.lst ((List.replicate i true).map V.bl))) ?_ ?_ ?_ ?_
    · exact ⟨same_new nD, upd_same⟩
    · rintro i H' _ ⟨sm, _⟩; exact SqT.same sm h2
    · rintro i x H' hx ⟨sm, hD⟩
      obtain ⟨r, hr1, rfl⟩ := map_at hx
      obtain ⟨u, hu, hut⟩ := Paired.at' h3 hr1
      have um := List.mem_of_getElem? hu
      obtain ⟨p, pe, pp, pl⟩ := ok.cn.pr u um
      refine ⟨rfl, ?_⟩
      refine ⟨_, rfl, r, p, u.2, rfl, by rw [← pe]; exact SqT.same sm hut, pp, pl, ok.cn.nz u um, fun H3 s3 => ?_⟩
      refine ⟨_, s3 _ _ hD, ?_, same_write nD (sm.trans s3), ?_⟩
      · have := (List.getElem?_eq_some_iff.mp hr1).1
        rw [List.length_map, List.length_replicate, sizeLine_eq]; omega
      · rw [upd_same, List.replicate_succ', List.map_append]; rfl
    · rintro H2 ⟨sm, hD⟩
      refine ⟨D, _, rfl, .inl (.inl hD), true, by simp, iteF ?_⟩
      refine ⟨_, rfl, ?_⟩
      refine ⟨_, rfl, b, rfl, ⟨_, SqT.same sm h2⟩, ?_⟩
      refine for_tup (xs := rs.map V.ref) (fun i σ H' => ∃ y3, σ = [some (.ref a), some (.int d), some (.ref b), y3, some (.int (gl d ((L.take i).map (·.2))))] ∧ H' = H2) ⟨_, rfl, rfl⟩ ?_ ?_ ?_
      · rintro i σ H' _ ⟨_, _, rfl⟩; exact SqT.same sm h2
      · rintro i x σ H' hx ⟨y3, rfl, rfl⟩
        obtain ⟨r, hr1, rfl⟩ := map_at hx
        obtain ⟨u, hu, hut⟩ := Paired.at' h3 hr1
        refine ⟨_, rfl, _, rfl, r, _, 1, _, rfl, rfl, SqT.same sm hut, atI_nat (j := 1) rfl, _, _, rfl, ⟨some (.ref r), ?_, rfl⟩⟩
        rw [take_snoc _ hu, gl_snoc]
        rfl
      · rintro σ H' ⟨y3, rfl, rfl⟩
        rw [List.length_map, rl, List.take_of_length_le (Nat.le_refl _), ok.cn.gcd]
        refine ⟨_, rfl, rfl, true, rfl, iteT ?_⟩
        refine ⟨_, rfl, b, rfl, ⟨_, SqT.same sm h2⟩, fun D2 nD2 => ?_⟩
        refine lc_tup (xs := rs.map V.ref) (fun i H' => Same H H' ∧ H' D2 = some (.lst (((L.take i).map (·.1)).map V.int))) ?_ ?_ ?_ ?_
        · exact ⟨sm.trans (same_new nD2), upd_same⟩
        · rintro i H' _ ⟨sm, _⟩; exact SqT.same sm h2
        · rintro i x H3 hx ⟨sm3, hD3⟩
          obtain ⟨r, hr1, rfl⟩ := map_at hx
          obtain ⟨u, hu, hut⟩ := Paired.at' h3 hr1
          refine ⟨rfl, ?_⟩
          refine ⟨_, rfl, r, _, 0, _, rfl, rfl, SqT.same sm3 hut, atI_nat (j := 0) rfl, _, hD3, ?_, same_write (sm.free nD2) sm3, ?_⟩
          · rw [List.length_map, List.length_map, List.length_take, sizeLine_eq]; omega
          · rw [upd_same, take_snoc _ hu, List.map_append]; rfl
        · rintro H3 ⟨sm3, hD3⟩
          rw [List.length_map, rl, List.take_of_length_le (Nat.le_refl _)] at hD3
          refine ⟨D2, L.map (·.1), rfl, .inl (.inl hD3), ?_, by rw [List.length_map]; omega, fun H4 s4 => q H4 (sm3.trans s4)⟩
          rw [List.pairwise_map]
          exact ok.cn.asc
theorem ca_require_amount (T : Tx K mg) : Ca P w K mg base 5 "require_amount" s_require_amount ["thing"] (spReqAmount K) := by
  have C_is_amount := ca_is_amount (P := P) (w := w) (base := base) T
  refine Ca.of (fd_require_amount T) sc_require_amount ?_ ?_
  · rintro vs H Q E ⟨v, d, L, rfl, _⟩; rfl
  · rintro f cdv A out s H vs Q E hr ⟨v, d, L, rfl, ha, ok, q⟩
    refine ⟨_, (pss_one (ps_if (pt_not (pt_val (pe_ca C_is_amount hr (pa_cons (pv 0) pa_nil))))
 (pss_one ps_never)
 pss_nil)), ?_⟩
    refine ⟨_, rfl, v, d, L, rfl, ha, ok, fun H' s' => ⟨true, rfl, iteF ?_⟩⟩
    exact q H' s'
def spReqNumber : Sp := fun vs H Q _ => ∃ (i lo hi : Int), vs = [.int i, .int lo, .int hi] ∧ lo ≤ i ∧ i ≤ hi ∧ Q .non H
theorem ca_require_number (T : Tx K mg) : Ca P w K mg base 3 "require_number" s_require_number ["thing", "low", "high"] spReqNumber := by
  have C_is_integer_in := ca_is_integer_in (P := P) (w := w) (base := base) T
  refine Ca.of (fd_require_number T) sc_require_number ?_ ?_
  · rintro vs H Q E ⟨i, lo, hi, rfl, _⟩; rfl
  · rintro f cdv A out s H vs Q E hr ⟨i, lo, hi, rfl, h1, h2, q⟩
    refine ⟨_, (pss_one (ps_if (pt_not (pt_val (pe_ca C_is_integer_in hr (pa_cons (pv 0) (pa_cons (pv 1) (pa_cons (pv 2) pa_nil))))))
 (pss_one ps_never)
 pss_nil)), ?_⟩
    refine ⟨_, rfl, _, rfl, _, rfl, i, lo, hi, rfl, ?_⟩
    exact ⟨true, by rw [decide_eq_true (⟨h1, h2⟩ : lo ≤ i ∧ i ≤ hi)], iteF q⟩
/-- the logarithm of n -/
noncomputable def lo1 (n : Nat) (p : Int) : Int := lg [(1, (n : Int))] p
def spAmountOf (K : PySem.W.Frag) : Sp := fun vs H Q _ => ∃ n : Nat, vs = [.int n] ∧ 0 < n ∧ n ≤ 900000 ∧ ∀ v d L H', Same H H' → AmtAt K H' v d L → St4 d L 1 (lo1 n) → Q v H'
theorem ca_amount_of (T : Tx K mg) : Ca P w K mg base 5 "amount_of" s_amount_of ["number"] (spAmountOf K) := by
  have C_require_number := ca_require_number (P := P) (w := w) (base := base) T
  have C_amount_from := ca_amount_from (P := P) (w := w) (base := base) T
  have C_prime_powers := ca_prime_powers (P := P) (w := w) (base := base) T
  refine Ca.of (fd_amount_of T) sc_amount_of ?_ ?_
  · rintro vs H Q E ⟨n, rfl, _⟩; rfl
  · rintro f cdv A out s H vs Q E hr ⟨n, rfl, h0, h1, q⟩
    refine ⟨_, (pss_cons (ps_expr (pe_ca C_require_number hr (pa_cons (pv 0) (pa_cons pe_int (pa_cons (pe_globI T.i_ABOVE_PRIMES) pa_nil)))))
 (pss_one (ps_ret (pe_ca C_amount_from hr (pa_cons pe_int (pa_cons (pe_ca C_prime_powers hr (pa_cons (pv 0) pa_nil)) pa_nil)))))), ?_⟩
    refine ⟨_, rfl, n, 1, 1000000, rfl, by omega, by omega, ?_⟩
    refine ⟨_, rfl, n, rfl, h0, by omega, fun D L H' nD sm hD pf => ?_⟩
    refine ⟨1, D, zz L, rfl, by omega, by omega, hD, ?_, ?_, fun v d L' H2 s2 am st => q v d L' H2 (sm.trans s2) am ⟨st.1, fun p => ?_⟩⟩
    · refine ⟨zz_nodup pf.asc, fun q hq => ?_⟩
      obtain ⟨x, hx, rfl⟩ := List.mem_map.mp hq
      exact ⟨x.1, rfl, (pf.pr x hx).1, by have := (PF.bound pf hx).1; omega⟩
    · have := pp_len (m := 1) pf.pr (by rw [Nat.mul_one]; exact pf.prod) (by omega) (show n < 2 ^ 40 by omega)
      have e : (zz L).length = L.length := by unfold zz; rw [List.length_map]
      omega
    · have z := st.2 p
      rw [PF.ig pf] at z
      exact z
def spSpread (K : PySem.W.Frag) : Sp := fun vs H Q _ => ∃ (a : Addr) (ns : List Int), vs = [.ref a] ∧ SqT K H a (ns.map V.int) ∧ Cts ns ∧ (∀ n ∈ ns, n ≤ 999) ∧
  ∀ v d L H', Same H H' → AmtAt K H' v d L → St4 d L ns.sum (lg (sprM ns)) → Q v H'
theorem ca_spread (T : Tx K mg) : Ca P w K mg base 4 "spread" s_spread ["counts"] (spSpread K) := by
  have C_spread_of := ca_spread_of (P := P) (w := w) (base := base) T
  have C_are_integers_in := ca_are_integers_in (P := P) (w := w) (base := base) T
  refine Ca.of (fd_spread T) sc_spread ?_ ?_
  · rintro vs H Q E ⟨a, ns, rfl, _⟩; rfl
  · rintro f cdv A out s H vs Q E hr ⟨a, ns, rfl, hT, hc, h9, q⟩
    refine ⟨_, (pss_cons (ps_if (PW.pt (pw_or (pt_not (pt_val (pe_ca C_are_integers_in hr (pa_cons (pv 0) (pa_cons pe_int (pa_cons (pe_globI T.i_MOST_COUNT) pa_nil)))))) (pw_or1 (pt_not (pt_chain op_le op_le pe_int (pe_callB call_len_seq (by rfl) T.f_len (by decide +kernel) (pa_cons (pv 0) pa_nil)) (pe_globI T.i_MOST_COUNTS))))))
 (pss_one ps_never)
 pss_nil)
 (pss_one (ps_ret (pe_ca C_spread_of hr (pa_cons (pv 0) pa_nil))))), ?_⟩
    refine ⟨_, rfl, a, ns, 1, 999, rfl, hT, by have := hc.len; omega, fun H' sm => ?_⟩
    have e1 : (ns.all fun i => decide ((1 : Int) ≤ i ∧ i ≤ 999)) = true := by
      rw [List.all_eq_true]
      intro n hn
      have := hc.pos n hn
      exact decide_eq_true ⟨by omega, h9 n hn⟩
    rw [e1]
    refine ⟨true, rfl, iteF ?_⟩
    have l1 := hc.ne
    have l2 := hc.len
    refine ⟨_, rfl, a, _, rfl, .inr (SqT.same sm hT), ?_⟩
    refine ⟨_, _, rfl, rfl, _, rfl, ite2 (fun c => ?_) (fun c => absurd (decide_eq_true (by rw [List.length_map]; omega)) c)⟩
    refine ⟨_, _, rfl, rfl, _, rfl, ite2 (fun c => ?_) (fun c => ?_)⟩
    · have : ¬ (((ns.map V.int).length : Int) ≤ 40) := by
        intro z
        have z2 : decide (((ns.map V.int).length : Int) ≤ 40) = true := decide_eq_true z
        rw [z2] at c; cases c
      rw [List.length_map] at this
      omega
    · exact ⟨_, rfl, a, ns, rfl, SqT.same sm hT, hc, fun v d L H2 s2 am st => q v d L H2 (sm.trans s2) am st⟩
end
end K02

namespace K02
open PySem PySem.Spec PyProof.Rows L2 Ly Am
section
/-- an amount that stands for f / B, prime by prime -/
def Val (K : PySem.W.Frag) (H : Hp) (v : V) (B : Int) (f : Int → Int) : Prop := ∃ d L, AmtAt K H v d L ∧ St4 d L B f
theorem Val.same {K : PySem.W.Frag} {H H' : Hp} {v : V} {B : Int} {f : Int → Int} (s : Same H H') (h : Val K H v B f) : Val K H' v B f := by
  obtain ⟨d, L, h1, h2⟩ := h
  exact ⟨d, L, h1.same s, h2⟩
theorem Val.kp {K : PySem.W.Frag} {H H' : Hp} {v : V} {B : Int} {f : Int → Int} (s : Kp H H') (h : Val K H v B f) : Val K H' v B f := by
  obtain ⟨d, L, h1, h2⟩ := h
  exact ⟨d, L, h1.kp s, h2⟩
structure Bd (B : Int) (f : Int → Int) : Prop where
  pos : 0 < B
  bl : B < 2 ^ 50
  key : ∀ p, f p ≠ 0 → p ≤ 1000
  par : ∀ p, (f p).natAbs < 2 ^ 50
theorem Bd.ok {B d : Int} {f : Int → Int} {L : List (Int × Int)} (b : Bd B f) (s : St4 d L B f) : AmOk d L := by
  refine ⟨s.1, by have := s.le b.pos; have := b.bl; omega, fun q hq => b.key _ (s.zero b.pos hq), fun q hq => ?_⟩
  have h1 := s.abs b.pos q.1
  rw [ig_mem (asc_nodup s.1.asc) hq] at h1
  have := b.par q.1
  omega
theorem St4.congr {d B C : Int} {L : List (Int × Int)} {f g : Int → Int} (s : St4 d L B f) (hB : 0 < B) (h : ∀ p, f p * C = g p * B) : St4 d L C g := by
  refine ⟨s.1, fun p => ?_⟩
  have h1 := s.2 p
  have h2 : (ig L p * C) * B = (g p * d) * B := by
    calc (ig L p * C) * B = (ig L p * B) * C := by rw [Int.mul_right_comm]
      _ = (f p * C) * d := by rw [h1, Int.mul_right_comm]
      _ = (g p * d) * B := by rw [h p, Int.mul_right_comm]
  exact Int.eq_of_mul_eq_mul_right (by omega) h2
theorem Val.congr {K : PySem.W.Frag} {H : Hp} {v : V} {B C : Int} {f g : Int → Int} (h : Val K H v B f) (hB : 0 < B) (e : ∀ p, f p * C = g p * B) : Val K H v C g := by
  obtain ⟨d, L, h1, h2⟩ := h
  exact ⟨d, L, h1, St4.congr h2 hB e⟩
theorem comb_val {d d1 d2 B : Int} {L L1 L2 : List (Int × Int)} {f1 f2 : Int → Int} {s : Int} (h1 : St4 d1 L1 B f1) (h2 : St4 d2 L2 B f2) (hB : 0 < B)
    (h : St4 d L (lcms 1 [(1, d1, L1), (s, d2, L2)]) (cf (lcms 1 [(1, d1, L1), (s, d2, L2)]) [(1, d1, L1), (s, d2, L2)])) : St4 d L B (fun p => f1 p + s * f2 p) := by
  have c1 := h1.1.d1
  have c2 := h2.1.d1
  have hb := lcms_pos [(1, d1, L1), (s, d2, L2)] 1 (by omega) (by
    intro t ht
    rcases List.mem_cons.mp ht with e | ht
    · rw [e]; exact c1
    · rcases List.mem_cons.mp ht with e | ht
      · rw [e]; exact c2
      · cases ht)
  have dv := (lcms_dvd [(1, d1, L1), (s, d2, L2)] 1).2
  have v1 := dv (1, d1, L1) (by simp)
  have v2 := dv (s, d2, L2) (by simp)
  generalize lcms 1 [(1, d1, L1), (s, d2, L2)] = C at *
  refine St4.congr h hb fun p => ?_
  obtain ⟨x, hx⟩ := v1
  obtain ⟨y, hy⟩ := v2
  have e1 : C / d1 = x := by rw [hx]; exact Int.mul_ediv_cancel_left _ (by show d1 ≠ 0; omega)
  have e2 : C / d2 = y := by rw [hy]; exact Int.mul_ediv_cancel_left _ (by show d2 ≠ 0; omega)
  have g1 := h1.2 p
  have g2 := h2.2 p
  have e3 : cf C [(1, d1, L1), (s, d2, L2)] p = 1 * (C / d1) * ig L1 p + (s * (C / d2) * ig L2 p + 0) := rfl
  rw [e3, e1, e2, Int.add_mul, Int.add_mul, Int.add_mul]
  have k1 : 1 * x * ig L1 p * B = f1 p * C := by
    rw [Int.one_mul, Int.mul_assoc, g1, hx]; show x * (f1 p * d1) = f1 p * (d1 * x)
    rw [Int.mul_comm, Int.mul_assoc]
  have k2 : s * y * ig L2 p * B = s * f2 p * C := by
    rw [Int.mul_assoc, g2, hy]; show s * y * (f2 p * d2) = s * f2 p * (d2 * y)
    rw [Int.mul_assoc, Int.mul_assoc]; congr 1; rw [Int.mul_left_comm, Int.mul_comm y d2]
  rw [k1, k2, Int.zero_mul, Int.add_zero]
end
section
variable {P : Program} {w : World} {K : PySem.W.Frag} {mg : Str → Option Value} {base : Heap}
def spPM (K : PySem.W.Frag) (s : Int) : Sp := fun vs H Q _ => ∃ (v1 v2 : V) (B : Int) (f1 f2 : Int → Int), vs = [v1, v2] ∧ Val K H v1 B f1 ∧ Val K H v2 B f2 ∧ Bd B f1 ∧ Bd B f2 ∧
  ∀ v H', Same H H' → Val K H' v B (fun p => f1 p + s * f2 p) → Q v H'
theorem lcms2_le {d1 d2 B s : Int} {L1 L2 : List (Int × Int)} (h1 : d1 ∣ B) (h2 : d2 ∣ B) (hB : 0 < B) : lcms 1 [(1, d1, L1), (s, d2, L2)] ≤ B := by
  refine Int.le_of_dvd hB ?_
  show (((((1 : Int).natAbs.lcm d1.natAbs : Nat) : Int).natAbs.lcm d2.natAbs : Nat) : Int) ∣ B
  rw [show (1 : Int).natAbs = 1 from rfl, Nat.lcm_eq_right (Nat.one_dvd _)]
  apply Int.natAbs_dvd_natAbs.mp
  rw [Int.natAbs_natCast, Int.natAbs_natCast]
  exact Nat.lcm_dvd (Int.natAbs_dvd_natAbs.mpr h1) (Int.natAbs_dvd_natAbs.mpr h2)
theorem ca_plus (T : Tx K mg) : Ca P w K mg base 6 "plus" s_plus ["one", "other"] (spPM K 1) := by
  have C_require_amount := ca_require_amount (P := P) (w := w) (base := base) T
  have C_combined := ca_combined (P := P) (w := w) (base := base) T
  refine Ca.of (fd_plus T) sc_plus ?_ ?_
  · rintro vs H Q E ⟨v1, v2, B, f1, f2, rfl, _⟩; rfl
  · rintro f cdv A out s H vs Q E hr ⟨v1, v2, B, f1, f2, rfl, ⟨d1, L1, a1, t1⟩, ⟨d2, L2, a2, t2⟩, b1, b2, q⟩
    refine ⟨_, (pss_cons (ps_expr (pe_ca C_require_amount hr (pa_cons (pv 0) pa_nil)))
 (pss_cons (ps_expr (pe_ca C_require_amount hr (pa_cons (pv 1) pa_nil)))
 (pss_one (ps_ret (pe_ca C_combined hr (pa_cons (pe_lst (pa_cons (pe_tup (pa_cons pe_int (pa_cons (pv 0) pa_nil))) (pa_cons (pe_tup (pa_cons pe_int (pa_cons (pv 1) pa_nil))) pa_nil))) pa_nil)))))), ?_⟩
    have ok1 := b1.ok t1
    have ok2 := b2.ok t2
    refine ⟨_, rfl, v1, d1, L1, rfl, a1, ok1, fun H1 s1 => ?_⟩
    refine ⟨_, rfl, v2, d2, L2, rfl, a2.same s1, ok2, fun H2 s2 => ?_⟩
    have z1 : 2 ≤ sizeLine := by rw [sizeLine_eq]; omega
    refine ⟨_, rfl, z1, fun p1 np1 => ⟨_, rfl, z1, fun p2 np2 => ⟨z1, fun l nl => ?_⟩⟩⟩
    have s3 := same_new (o := .tup [V.int 1, v1]) np1
    have s4 := same_new (o := .tup [V.int (1), v2]) np2
    have s5 := same_new (o := .lst [V.ref p1, V.ref p2]) nl
    refine ⟨l, [p1, p2], [(1, d1, L1), (1, d2, L2)], rfl, sqL_new, .cons ⟨v1, ?_, a1.same (((((s1.trans s2).trans s3).trans s4)).trans s5)⟩ (.cons ⟨v2, ?_, a2.same (((((s1.trans s2).trans s3).trans s4)).trans s5)⟩ .nil), ?_, ?_, fun v d L H3 s6 am st => q v H3 ((((((s1.trans s2).trans s3).trans s4)).trans s5).trans s6) ⟨d, L, am, comb_val t1 t2 b1.pos st⟩⟩
    · exact SqT.same (s4.trans s5) sqT_new
    · exact SqT.same s5 sqT_new
    · intro t ht
      rcases List.mem_cons.mp ht with e | ht
      · rw [e]; exact ⟨ok1.cn, by show (1 : Int).natAbs < _; decide, ok1.key, ok1.par⟩
      · rcases List.mem_cons.mp ht with e | ht
        · rw [e]; exact ⟨ok2.cn, by show (1 : Int).natAbs < _; decide, ok2.key, ok2.par⟩
        · cases ht
    · have := lcms2_le (L1 := L1) (L2 := L2) (s := 1) (t1.dvd b1.pos) (t2.dvd b1.pos) b1.pos
      have := b1.bl
      omega
theorem ca_minus (T : Tx K mg) : Ca P w K mg base 6 "minus" s_minus ["one", "other"] (spPM K (-1)) := by
  have C_require_amount := ca_require_amount (P := P) (w := w) (base := base) T
  have C_combined := ca_combined (P := P) (w := w) (base := base) T
  refine Ca.of (fd_minus T) sc_minus ?_ ?_
  · rintro vs H Q E ⟨v1, v2, B, f1, f2, rfl, _⟩; rfl
  · rintro f cdv A out s H vs Q E hr ⟨v1, v2, B, f1, f2, rfl, ⟨d1, L1, a1, t1⟩, ⟨d2, L2, a2, t2⟩, b1, b2, q⟩
    refine ⟨_, (pss_cons (ps_expr (pe_ca C_require_amount hr (pa_cons (pv 0) pa_nil)))
 (pss_cons (ps_expr (pe_ca C_require_amount hr (pa_cons (pv 1) pa_nil)))
 (pss_one (ps_ret (pe_ca C_combined hr (pa_cons (pe_lst (pa_cons (pe_tup (pa_cons pe_int (pa_cons (pv 0) pa_nil))) (pa_cons (pe_tup (pa_cons (pe_un un_neg pe_int) (pa_cons (pv 1) pa_nil))) pa_nil))) pa_nil)))))), ?_⟩
    have ok1 := b1.ok t1
    have ok2 := b2.ok t2
    refine ⟨_, rfl, v1, d1, L1, rfl, a1, ok1, fun H1 s1 => ?_⟩
    refine ⟨_, rfl, v2, d2, L2, rfl, a2.same s1, ok2, fun H2 s2 => ?_⟩
    have z1 : 2 ≤ sizeLine := by rw [sizeLine_eq]; omega
    refine ⟨_, rfl, z1, fun p1 np1 => ⟨_, rfl, _, rfl, z1, fun p2 np2 => ⟨z1, fun l nl => ?_⟩⟩⟩
    have s3 := same_new (o := .tup [V.int 1, v1]) np1
    have s4 := same_new (o := .tup [V.int (-1), v2]) np2
    have s5 := same_new (o := .lst [V.ref p1, V.ref p2]) nl
    refine ⟨l, [p1, p2], [(1, d1, L1), (-1, d2, L2)], rfl, sqL_new, .cons ⟨v1, ?_, a1.same (((((s1.trans s2).trans s3).trans s4)).trans s5)⟩ (.cons ⟨v2, ?_, a2.same (((((s1.trans s2).trans s3).trans s4)).trans s5)⟩ .nil), ?_, ?_, fun v d L H3 s6 am st => q v H3 ((((((s1.trans s2).trans s3).trans s4)).trans s5).trans s6) ⟨d, L, am, comb_val t1 t2 b1.pos st⟩⟩
    · exact SqT.same (s4.trans s5) sqT_new
    · exact SqT.same s5 sqT_new
    · intro t ht
      rcases List.mem_cons.mp ht with e | ht
      · rw [e]; exact ⟨ok1.cn, by show (1 : Int).natAbs < _; decide, ok1.key, ok1.par⟩
      · rcases List.mem_cons.mp ht with e | ht
        · rw [e]; exact ⟨ok2.cn, by show (-1 : Int).natAbs < _; decide, ok2.key, ok2.par⟩
        · cases ht
    · have := lcms2_le (L1 := L1) (L2 := L2) (s := -1) (t1.dvd b1.pos) (t2.dvd b1.pos) b1.pos
      have := b1.bl
      omega
theorem ig_scale (t : Int) (L : List (Int × Int)) (p : Int) : ig (L.map fun q => (q.1, q.2 * t)) p = ig L p * t := by
  induction L with
  | nil => show (0 : Int) = 0 * t; rw [Int.zero_mul]
  | cons x r ih =>
    rw [List.map_cons, ig_cons, ig_cons, ih]
    show (if p = x.1 then x.2 * t else _) = _
    split <;> rfl
def spTimes (K : PySem.W.Frag) : Sp := fun vs H Q _ => ∃ (v : V) (B : Int) (f : Int → Int) (t b : Int), vs = [v, .int t, .int b] ∧ Val K H v B f ∧ Bd B f ∧ -1000 ≤ t ∧ t ≤ 1000 ∧ 0 < b ∧ b ≤ 1000 ∧
  ∀ v H', Same H H' → Val K H' v (B * b) (fun p => f p * t) → Q v H'
theorem ca_times (T : Tx K mg) : Ca P w K mg base 6 "times" s_times ["amount", "top", "bottom"] (spTimes K) := by
  have C_require_amount := ca_require_amount (P := P) (w := w) (base := base) T
  have C_require_number := ca_require_number (P := P) (w := w) (base := base) T
  have C_amount_from := ca_amount_from (P := P) (w := w) (base := base) T
  refine Ca.of (fd_times T) sc_times ?_ ?_
  · rintro vs H Q E ⟨v, B, f, t, b, rfl, _⟩; rfl
  · rintro f cdv A out s H vs Q E hr ⟨v, B, g, t, b, rfl, ⟨d, L, ha, st⟩, bd, ht0, ht1, hb0, hb1, q⟩
    refine ⟨_, (pss_cons (ps_expr (pe_ca C_require_amount hr (pa_cons (pv 0) pa_nil)))
 (pss_cons (ps_expr (pe_ca C_require_number hr (pa_cons (pv 1) (pa_cons (pe_un un_neg (pe_globI T.i_MOST_TOP)) (pa_cons (pe_globI T.i_MOST_TOP) pa_nil)))))
 (pss_cons (ps_expr (pe_ca C_require_number hr (pa_cons (pv 2) (pa_cons pe_int (pa_cons (pe_globI T.i_MOST_TOP) pa_nil)))))
 (pss_cons (ps_setDc (i := 3) (own := [("prime", 4), ("factor", 5)]) rfl sc_times.nd rfl rfl (sw_trueD rfl rfl rfl (by decide +kernel)) (pi_tup (pe_ix ix_tup (pv 0) pe_int (fun _ _ => rfl))) (blkOk_by (own := [("prime", 4), ("factor", 5)]) (N := n_times) (sc := defScope s_times) (by decide +kernel)) (fun _ _ _ _ _ => (pg_tupK (K := K) 2 rfl (pgs_cons (pg_name (i := 4) sc_times.nd rfl (Or.inl rfl) (Or.inr rfl)) (pgs_cons (pg_name (i := 5) sc_times.nd rfl (Or.inl rfl) (Or.inr rfl)) pgs_nil)))) (fun _ _ _ _ _ => pts_nil) (fun _ _ _ _ _ => (pv 4)) (fun _ _ _ _ _ => (pe_op op_mulW (pv 5) (pv 1))))
 (pss_one (ps_ret (pe_ca C_amount_from hr (pa_cons (pe_op op_mulW (pe_ix ix_tup (pv 0) pe_int (fun _ _ => rfl)) (pv 2)) (pa_cons (pv 3) pa_nil))))))))), ?_⟩
    have ok := bd.ok st
    refine ⟨_, rfl, v, d, L, rfl, ha, ok, fun H1 s1 => ?_⟩
    obtain ⟨a, b2, rs, rfl, h1, h2, h3⟩ := ha.same s1
    have rl : rs.length = L.length := Paired.length h3
    have ll := ok.len
    refine ⟨_, rfl, _, rfl, t, -1000, 1000, rfl, by omega, by omega, ?_⟩
    refine ⟨_, rfl, b, 1, 1000, rfl, by omega, by omega, ?_⟩
    refine ⟨_, rfl, a, _, 1, _, rfl, rfl, h1, atI_nat (j := 1) rfl, b2, rfl, ⟨_, h2⟩, fun D nD => ?_⟩
    refine dc_tup (xs := rs.map V.ref) (fun i H' => Same H1 H' ∧ H' D = some (.dK (kd ((L.take i).map fun q => (q.1, q.2 * t))))) ?_ ?_ ?_ ?_
    · exact ⟨same_new nD, upd_same⟩
    · rintro i H' _ ⟨sm, _⟩; exact SqT.same sm h2
    · rintro i x H' hx ⟨sm, hD⟩
      obtain ⟨r, hr1, rfl⟩ := map_at hx
      obtain ⟨u, hu, hut⟩ := Paired.at' h3 hr1
      have um := List.mem_of_getElem? hu
      refine ⟨r, _, rfl, SqT.same sm hut, rfl, _, _, rfl, _, [], rfl, rfl, rfl, ?_⟩
      refine ⟨_, rfl, _, rfl, _, rfl, _, _, rfl, rfl, wide_mul (a := 64) (b := 20) (ok.par u um) (by omega) (by omega) (by omega) (by omega), _, Sum.inl u.1, rfl, hD, ?_, same_write nD sm, ?_⟩
      · rw [kd_len, List.length_map, List.length_take, sizeLine_eq]; omega
      · rw [upd_same, kd_put, ip_new, take_snoc _ hu]
        apply (lookup_none_iff _ _).mpr
        intro q hq z
        obtain ⟨q', hq', rfl⟩ := List.mem_map.mp hq
        have nd := asc_nodup ok.cn.asc
        have hj : i < L.length := (List.getElem?_eq_some_iff.mp hu).1
        have e1 : L = L.take i ++ u :: L.drop (i + 1) := by
          conv => lhs; rw [← List.take_append_drop i L]
          congr 1
          rw [List.drop_eq_getElem_cons hj]
          congr 1
          exact (List.getElem?_eq_some_iff.mp hu).2
        rw [e1, List.map_append, List.nodup_append] at nd
        exact nd.2.2 _ (List.mem_map.mpr ⟨q', hq', rfl⟩) _ (by rw [List.map_cons]; exact List.mem_cons_self) z
    · rintro H2 ⟨sm, hD⟩
      rw [List.length_map, rl, List.take_of_length_le (Nat.le_refl _)] at hD
      have dl := ok.dl
      have d1 := ok.cn.d1
      have db := st.le bd.pos
      have bl := bd.bl
      refine ⟨_, rfl, a, _, 0, _, rfl, rfl, SqT.same sm h1, atI_nat (j := 0) rfl, _, rfl, _, _, rfl, rfl, wide_mul (a := 64) (b := 20) (by omega) (by omega) (by omega) (by omega) (by omega), ?_⟩
      have m1 : d * b ≤ 2 ^ 50 * 1000 := Int.mul_le_mul (by omega) hb1 (by omega) (by omega)
      have m0 : 0 < d * b := Int.mul_pos d1 hb0
      refine ⟨_, rfl, d * b, D, L.map fun q => (q.1, q.2 * t), rfl, m0, by omega, hD, ⟨?_, ?_⟩, by rw [List.length_map]; omega, fun v' d' L' H3 s3 am st3 => q v' H3 ((s1.trans sm).trans s3) ⟨d', L', am, ?_⟩⟩
      · rw [List.map_map]; exact asc_nodup ok.cn.asc
      · intro x hx
        obtain ⟨y, hy, rfl⟩ := List.mem_map.mp hx
        exact ok.cn.pr y hy
      · refine St4.congr st3 m0 fun p => ?_
        have e1 := ig_scale t L p
        have e2 := st.2 p
        rw [e1]
        calc ig L p * t * (B * b) = (ig L p * B) * (t * b) := by rw [Int.mul_assoc, Int.mul_assoc]; congr 1; rw [Int.mul_left_comm]
          _ = (g p * d) * (t * b) := by rw [e2]
          _ = g p * t * (d * b) := by rw [Int.mul_assoc, Int.mul_assoc]; congr 1; rw [Int.mul_left_comm]
/-- which of the products is greater -/
def sgn (L : List (Int × Int)) : Int := if up 1 L = dn 1 L then 0 else if dn 1 L < up 1 L then 1 else -1
def spSignOf (K : PySem.W.Frag) : Sp := fun vs H Q _ => ∃ (v : V) (d : Int) (L : List (Int × Int)) (n : Nat), vs = [v] ∧ AmtAt K H v d L ∧ AmOk d L ∧ Fits n 1 L ∧ ∀ H', Same H H' → Q (.int (sgn L)) H'
theorem ca_sign_of (T : Tx K mg) : Ca P w K mg base 6 "sign_of" s_sign_of ["amount"] (spSignOf K) := by
  have C_require_amount := ca_require_amount (P := P) (w := w) (base := base) T
  have C_products_of := ca_products_of (P := P) (w := w) (base := base) T
  refine Ca.of (fd_sign_of T) sc_sign_of ?_ ?_
  · rintro vs H Q E ⟨v, d, L, n, rfl, _⟩; rfl
  · rintro f cdv A out s H vs Q E hr ⟨v, d, L, n, rfl, ha, ok, ft, q⟩
    refine ⟨_, (pss_cons (ps_expr (pe_ca C_require_amount hr (pa_cons (pv 0) pa_nil)))
 (pss_cons (ps_asg (pe_ca C_products_of hr (pa_cons (pe_ix ix_tup (pv 0) pe_int (fun _ _ => rfl)) (pa_cons pe_int pa_nil))) (pg_tup rfl (pgs_cons (pg_name (i := 1) sc_sign_of.nd rfl (.inl rfl)) (pgs_cons (pg_name (i := 2) sc_sign_of.nd rfl (.inl rfl)) pgs_nil))))
 (pss_cons (ps_if (pt_cmpR op_eq (pv 1) (pv 2) (nomark _))
 (pss_one (ps_ret pe_int))
 pss_nil)
 (pss_one (ps_ret (pe_ifExp (pt_cmpR op_gt (pv 1) (pv 2) (nomark _)) pe_int (pe_un un_neg pe_int))))))), ?_⟩
    refine ⟨_, rfl, v, d, L, rfl, ha, ok, fun H1 s1 => ?_⟩
    obtain ⟨a, b2, rs, rfl, h1, h2, h3⟩ := ha.same s1
    refine ⟨_, rfl, a, _, 1, _, rfl, rfl, h1, atI_nat (j := 1) rfl, ?_⟩
    refine ⟨b2, rs, L, 1, n, rfl, h2, h3, ft, fun t H2 s2 ht => ?_⟩
    refine ⟨t, _, rfl, ht, rfl, _, _, rfl, _, [], rfl, rfl, ?_⟩
    refine ⟨_, rfl, _, rfl, rfl, _, rfl, ite2 (fun c => ?_) (fun c => ?_)⟩
    · have e : up 1 L = dn 1 L := V.int.inj (of_decide_eq_true c)
      have z := q H2 (s1.trans s2)
      unfold sgn at z
      rw [if_pos e] at z
      exact z
    · have e : ¬ up 1 L = dn 1 L := fun z => c (decide_eq_true (congrArg V.int z))
      have z := q H2 (s1.trans s2)
      unfold sgn at z
      rw [if_neg e] at z
      refine ⟨_, rfl, _, rfl, _, _, rfl, rfl, _, rfl, ite2 (fun c => ?_) (fun c => ?_)⟩
      · have c' : dn 1 L < up 1 L := of_decide_eq_true c
        rw [if_pos c'] at z; exact z
      · have c' : ¬ dn 1 L < up 1 L := fun z => c (decide_eq_true z)
        rw [if_neg c'] at z; exact ⟨_, rfl, z⟩
def spIsBelow (K : PySem.W.Frag) : Sp := fun vs H Q _ => ∃ (v1 v2 : V) (B : Int) (f1 f2 : Int → Int) (n : Nat), vs = [v1, v2] ∧ Val K H v1 B f1 ∧ Val K H v2 B f2 ∧ Bd B f1 ∧ Bd B f2 ∧ Bd B (fun p => f1 p + -1 * f2 p) ∧
  (∀ d L, St4 d L B (fun p => f1 p + -1 * f2 p) → Fits n 1 L) ∧ ∀ d L H', Same H H' → St4 d L B (fun p => f1 p + -1 * f2 p) → Q (.bl (decide (up 1 L < dn 1 L))) H'
theorem ca_is_below (T : Tx K mg) : Ca P w K mg base 7 "is_below" s_is_below ["one", "other"] (spIsBelow K) := by
  have C_minus := ca_minus (P := P) (w := w) (base := base) T
  have C_sign_of := ca_sign_of (P := P) (w := w) (base := base) T
  refine Ca.of (fd_is_below T) sc_is_below ?_ ?_
  · rintro vs H Q E ⟨v1, v2, B, f1, f2, n, rfl, _⟩; rfl
  · rintro f cdv A out s H vs Q E hr ⟨v1, v2, B, f1, f2, n, rfl, a1, a2, b1, b2, b3, ft, q⟩
    refine ⟨_, (pss_one (ps_ret (pe_cmpR op_lt (pe_ca C_sign_of hr (pa_cons (pe_ca C_minus hr (pa_cons (pv 0) (pa_cons (pv 1) pa_nil))) pa_nil)) pe_int (nomark _)))), ?_⟩
    refine ⟨_, rfl, _, rfl, v1, v2, B, f1, f2, rfl, a1, a2, b1, b2, fun v H1 s1 ⟨d, L, am, st⟩ => ?_⟩
    refine ⟨v, d, L, n, rfl, am, b3.ok st, ft d L st, fun H2 s2 => ?_⟩
    refine ⟨_, _, rfl, rfl, ?_⟩
    have z := q d L H2 (s1.trans s2) st
    have e : decide (sgn L < 0) = decide (up 1 L < dn 1 L) := by
      apply decide_eq_decide.mpr
      unfold sgn
      split
      · omega
      · split <;> omega
    rw [← e] at z
    exact z
end
end K02

namespace K02
open PySem PySem.Spec PyProof.Rows L2 Ly Am
/-- 2 ^ e is at most a / b -/
def le2 (e a b : Int) : Prop := b * 2 ^ e.toNat ≤ a * 2 ^ (-e).toNat
theorem bits_nat {n : Nat} (h : 0 < n) : Builtin.Int.intBits (n : Int) = n.log2 + 1 := by
  unfold Builtin.Int.intBits
  rw [if_neg (by simp; omega)]
  rw [Int.natAbs_natCast]
theorem ge_bits {a b A B x y : Nat} (ha : a < 2 ^ A) (hb : 2 ^ (B - 1) ≤ b) (hB : 0 < B) (h : A + x ≤ B - 1 + y) : a * 2 ^ x < b * 2 ^ y := by
  have h1 : a * 2 ^ x < 2 ^ A * 2 ^ x := Nat.mul_lt_mul_of_pos_right ha (Nat.two_pow_pos x)
  have h2 : 2 ^ (B - 1) * 2 ^ y ≤ b * 2 ^ y := Nat.mul_le_mul_right _ hb
  rw [← Nat.pow_add] at h1 h2
  have h3 : 2 ^ (A + x) ≤ 2 ^ (B - 1 + y) := Nat.pow_le_pow_right (by omega) h
  omega
theorem le2_nat {e : Int} {a b : Nat} : le2 e a b ↔ b * 2 ^ e.toNat ≤ a * 2 ^ (-e).toNat := by
  unfold le2
  have e1 : ((b : Int) * 2 ^ e.toNat) = ((b * 2 ^ e.toNat : Nat) : Int) := by simp
  have e2 : ((a : Int) * 2 ^ (-e).toNat) = ((a * 2 ^ (-e).toNat : Nat) : Int) := by simp
  rw [e1, e2]; omega
theorem guess_ok {a b : Nat} (ha : 0 < a) (hb : 0 < b) : ¬ le2 ((a.log2 + 1 : Nat) - (b.log2 + 1 : Nat) + 1) a b ∧ le2 ((a.log2 + 1 : Nat) - (b.log2 + 1 : Nat) - 1) a b := by
  have a1 := Nat.log2_self_le (n := a) (by omega)
  have a2 : a < 2 ^ (a.log2 + 1) := Nat.lt_log2_self
  have b1 := Nat.log2_self_le (n := b) (by omega)
  have b2 : b < 2 ^ (b.log2 + 1) := Nat.lt_log2_self
  rw [le2_nat, le2_nat]
  refine ⟨fun z => ?_, ?_⟩
  · have := ge_bits (A := a.log2 + 1) (B := b.log2 + 1) a2 b1 (by omega) (x := (-((a.log2 + 1 : Nat) - (b.log2 + 1 : Nat) + 1 : Int)).toNat) (y := ((a.log2 + 1 : Nat) - (b.log2 + 1 : Nat) + 1 : Int).toNat) (by omega)
    omega
  · have := ge_bits (A := b.log2 + 1) (B := a.log2 + 1) b2 a1 (by omega) (x := ((a.log2 + 1 : Nat) - (b.log2 + 1 : Nat) - 1 : Int).toNat) (y := (-((a.log2 + 1 : Nat) - (b.log2 + 1 : Nat) - 1 : Int)).toNat) (by omega)
    omega
section
variable {P : Program} {w : World} {K : PySem.W.Frag} {mg : Str → Option Value} {base : Heap}
def spGreatest : Sp := fun vs H Q _ => ∃ (a b : Nat), vs = [.int a, .int b] ∧ 0 < a ∧ 0 < b ∧ a.log2 < 1000000 ∧ b.log2 < 1000000 ∧ ∀ e : Int, le2 e a b → ¬ le2 (e + 1) a b → e.natAbs ≤ 1000000 → Q (.int e) H
theorem ca_greatest_power (T : Tx K mg) : Ca P w K mg base 1 "greatest_power" s_greatest_power ["above", "below"] spGreatest := by
  refine Ca.of (fd_greatest_power T) sc_greatest_power ?_ ?_
  · rintro vs H Q E ⟨a, b, rfl, _⟩; rfl
  · rintro f cdv A out s H vs Q E hr ⟨a, b, rfl, a0, b0, al, bl, q⟩
    refine ⟨_, (pss_cons (ps_set (i := 2) sc_greatest_power.nd rfl (.inl rfl) (pe_op op_sub (pe_bits (pv 0)) (pe_bits (pv 1))))
 (pss_cons (ps_if (pt_cmpR op_ge (pv 2) pe_int (nomark _))
 (pss_one (ps_set (i := 3) sc_greatest_power.nd rfl (.inl rfl) (pe_cmpR op_le (pe_op op_shlW (pv 1) (pv 2)) (pv 0) (nomark _))))
 (pss_one (ps_set (i := 3) sc_greatest_power.nd rfl (.inl rfl) (pe_cmpR op_le (pv 1) (pe_op op_shlW (pv 0) (pe_un un_neg (pv 2))) (nomark _)))))
 (pss_one (ps_ret (pe_ifExp (pt_val (pv 3)) (pv 2) (pe_op op_sub (pv 2) pe_int)))))), ?_⟩
    obtain ⟨g1, g2⟩ := guess_ok a0 b0
    have a2 : a < 2 ^ (a.log2 + 1) := Nat.lt_log2_self
    have b2 : b < 2 ^ (b.log2 + 1) := Nat.lt_log2_self
    refine ⟨_, rfl, _, rfl, _, rfl, _, rfl, _, _, rfl, rfl, ?_⟩
    dsimp only
    rw [bits_nat a0, bits_nat b0]
    obtain ⟨g, eg⟩ : ∃ g : Int, ((a.log2 + 1 : Nat) : Int) - ((b.log2 + 1 : Nat) : Int) = g := ⟨_, rfl⟩
    rw [eg] at g1 g2 ⊢
    have gl : g.natAbs < 1000000 := by omega
    have ends : ∀ (k : Bool), (k = true ↔ le2 g a b) → ∀ e : Int, (e = if k = true then g else g - 1) → Q (.int e) H := by
      intro k hk e he
      cases k with
      | true => rw [if_pos rfl] at he; rw [he]; exact q g (hk.mp rfl) g1 (by omega)
      | false =>
        rw [if_neg (by decide)] at he
        rw [he]
        refine q (g - 1) g2 ?_ (by omega)
        rw [Int.sub_add_cancel]
        exact fun z => Bool.false_ne_true (hk.mpr z)
    refine ⟨_, rfl, _, _, rfl, rfl, _, rfl, ite2 (fun c => ?_) (fun c => ?_)⟩
    · have g0 : 0 ≤ g := of_decide_eq_true c
      refine ⟨_, rfl, _, rfl, _, _, rfl, rfl, ?_, _, rfl, _, _, rfl, rfl, ?_⟩
      · have := shl_ok (i := (b : Int)) (j := g.toNat) (n := b.log2 + 1) (by rw [Int.natAbs_natCast]; exact b2) (by omega)
        rwa [show ((g.toNat : Nat) : Int) = g by omega] at this
      have hk : decide ((b : Int) * 2 ^ g.toNat ≤ (a : Int)) = true ↔ le2 g a b := by
        rw [decide_eq_true_iff]
        unfold le2
        rw [show (-g).toNat = 0 by omega, Int.pow_zero, Int.mul_one]
      have z := ends _ hk _ rfl
      refine ⟨_, rfl, _, rfl, ite2 (fun c2 => ?_) (fun c2 => ?_)⟩
      · rw [if_pos c2] at z; exact ⟨_, rfl, z⟩
      · rw [if_neg c2] at z; exact ⟨_, rfl, _, _, rfl, rfl, z⟩
    · have g0 : ¬ 0 ≤ g := fun z => c (decide_eq_true z)
      refine ⟨_, rfl, _, rfl, _, rfl, _, rfl, _, _, rfl, rfl, ?_, _, _, rfl, rfl, ?_⟩
      · have := shl_ok (i := (a : Int)) (j := (-g).toNat) (n := a.log2 + 1) (by rw [Int.natAbs_natCast]; exact a2) (by omega)
        rwa [show (((-g).toNat : Nat) : Int) = -g by omega] at this
      have hk : decide ((b : Int) ≤ (a : Int) * 2 ^ (-g).toNat) = true ↔ le2 g a b := by
        rw [decide_eq_true_iff]
        unfold le2
        rw [show g.toNat = 0 by omega, Int.pow_zero, Int.mul_one]
      have z := ends _ hk _ rfl
      refine ⟨_, rfl, _, rfl, ite2 (fun c2 => ?_) (fun c2 => ?_)⟩
      · rw [if_pos c2] at z; exact ⟨_, rfl, z⟩
      · rw [if_neg c2] at z; exact ⟨_, rfl, _, _, rfl, rfl, z⟩
theorem upk_pos {k : Nat} {L : List (Int × Int)} (h : ∀ q ∈ L, 0 < q.1) : 0 < up k L ∧ 0 < dn k L := by
  induction L with
  | nil => exact ⟨by show (0 : Int) < 1; omega, by show (0 : Int) < 1; omega⟩
  | cons q r ih =>
    obtain ⟨h1, h2⟩ := ih fun z hz => h z (List.mem_cons_of_mem _ hz)
    have q0 : 0 < q.1 ^ (k * q.2.natAbs) := ipp _ (h q List.mem_cons_self)
    refine ⟨?_, ?_⟩
    · show 0 < (if 0 < q.2 then q.1 ^ (k * q.2.natAbs) else 1) * up k r
      refine Int.mul_pos ?_ h1
      split
      · exact q0
      · omega
    · show 0 < (if 0 < q.2 then 1 else q.1 ^ (k * q.2.natAbs)) * dn k r
      refine Int.mul_pos ?_ h2
      split
      · omega
      · exact q0
def spSteps (K : PySem.W.Frag) : Sp := fun vs H Q _ => ∃ (v : V) (d : Int) (L : List (Int × Int)) (k n : Nat), vs = [v, .int k] ∧ AmtAt K H v d L ∧ AmOk d L ∧ 0 < k ∧ k ≤ 100 ∧ Fits n k L ∧
  ∀ e H', Same H H' → le2 e (up k L) (dn k L) → ¬ le2 (e + 1) (up k L) (dn k L) → Q (.int (e / d)) H'
theorem ca_steps_of (T : Tx K mg) : Ca P w K mg base 6 "steps_of" s_steps_of ["amount", "k"] (spSteps K) := by
  have C_require_amount := ca_require_amount (P := P) (w := w) (base := base) T
  have C_require_number := ca_require_number (P := P) (w := w) (base := base) T
  have C_products_of := ca_products_of (P := P) (w := w) (base := base) T
  have C_greatest_power := ca_greatest_power (P := P) (w := w) (base := base) T
  refine Ca.of (fd_steps_of T) sc_steps_of ?_ ?_
  · rintro vs H Q E ⟨v, d, L, k, n, rfl, _⟩; rfl
  · rintro f cdv A out s H vs Q E hr ⟨v, d, L, k, n, rfl, ha, ok, k0, k1, ft, q⟩
    refine ⟨_, (pss_cons (ps_expr (pe_ca C_require_amount hr (pa_cons (pv 0) pa_nil)))
 (pss_cons (ps_expr (pe_ca C_require_number hr (pa_cons (pv 1) (pa_cons pe_int (pa_cons (pe_globI T.i_MOST_K) pa_nil)))))
 (pss_cons (ps_asg (pe_ca C_products_of hr (pa_cons (pe_ix ix_tup (pv 0) pe_int (fun _ _ => rfl)) (pa_cons (pv 1) pa_nil))) (pg_tup rfl (pgs_cons (pg_name (i := 2) sc_steps_of.nd rfl (.inl rfl)) (pgs_cons (pg_name (i := 3) sc_steps_of.nd rfl (.inl rfl)) pgs_nil))))
 (pss_one (ps_ret (pe_op op_fdivW (pe_ca C_greatest_power hr (pa_cons (pv 2) (pa_cons (pv 3) pa_nil))) (pe_ix ix_tup (pv 0) pe_int (fun _ _ => rfl)))))))), ?_⟩
    refine ⟨_, rfl, v, d, L, rfl, ha, ok, fun H1 s1 => ?_⟩
    refine ⟨_, rfl, k, 1, 100, rfl, by omega, by omega, ?_⟩
    obtain ⟨a, b2, rs, rfl, h1, h2, h3⟩ := ha.same s1
    refine ⟨_, rfl, a, _, 1, _, rfl, rfl, h1, atI_nat (j := 1) rfl, ?_⟩
    refine ⟨_, rfl, b2, rs, L, k, n, rfl, h2, h3, ft, fun t H2 s2 ht => ?_⟩
    refine ⟨t, _, rfl, ht, rfl, _, _, rfl, _, [], rfl, rfl, ?_⟩
    have lp : ∀ q ∈ L, 0 < q.1 := fun q hq => (ft.pos q hq).1
    obtain ⟨u0, d0⟩ := upk_pos (k := k) lp
    have ba : ∀ q ∈ L, q.1.natAbs < 2 ^ n := fun q hq => by
      obtain ⟨a1, a2⟩ := ft.pos q hq
      have e2 : ((2 : Int) ^ n) = ((2 ^ n : Nat) : Int) := by simp
      omega
    have ub := up_bits (k := k) ba
    have db := dn_bits (k := k) ba
    have all := ft.all
    have lg2 : ∀ x : Int, 0 < x → x.natAbs < 2 ^ (n * (k * cost L) + L.length + 1) → x.toNat.log2 < 1000000 := fun x x0 h => by
      have e : x.toNat = x.natAbs := by omega
      have : x.toNat.log2 < n * (k * cost L) + L.length + 1 := (Nat.log2_lt (by omega)).mpr (by omega)
      omega
    have eu : ((up k L).toNat : Int) = up k L := by omega
    have ed : ((dn k L).toNat : Int) = dn k L := by omega
    have dl := ok.dl
    have d1 := ok.cn.d1
    refine ⟨_, rfl, _, rfl, (up k L).toNat, (dn k L).toNat, by rw [eu, ed]; rfl, by omega, by omega, lg2 _ u0 ub, lg2 _ d0 db, fun e g1 g2 _ => ?_⟩
    rw [eu, ed] at g1 g2
    have dlog : d.natAbs.log2 < 9000 := by
      have : d.natAbs.log2 < 65 := (Nat.log2_lt (by omega)).mpr (by omega)
      omega
    refine ⟨_, rfl, a, _, 0, _, rfl, rfl, SqT.same s2 h1, atI_nat (j := 0) rfl, _, _, rfl, rfl, ⟨d1, dlog⟩, ?_⟩
    exact q e H2 (s1.trans s2) g1 g2
end
end K02

namespace K02
open PySem PySem.Spec PyProof.Rows L2 Ly Am
section
/-- the deck at D, its cells at C, no more than n draws so far -/
def deckK (C : Addr) (m k : Int) : List (Key × V) := [(Sum.inr "cells", V.ref C), (Sum.inr "mixed", V.int m), (Sum.inr "draws", V.int k)]
structure DeckAt (H : Hp) (D C : Addr) (n : Nat) : Prop where
  ex : ∃ (cs : List Int) (m k : Int), H D = some (.dK (deckK C m k)) ∧ H C = some (.lst (cs.map V.int)) ∧ cs.length ≤ 1000 ∧ 0 ≤ m ∧ m < 2147483563 ∧ 0 ≤ k ∧ k ≤ n
/-- all is kept but the deck -/
def Ot (D C : Addr) (H H' : Hp) : Prop := ∀ b o, H b = some o → b ≠ D → b ≠ C → H' b = some o
theorem Ot.refl (D C : Addr) (H : Hp) : Ot D C H H := fun _ _ e _ _ => e
theorem Ot.trans {D C : Addr} {H H1 H2 : Hp} (a : Ot D C H H1) (b : Ot D C H1 H2) : Ot D C H H2 := fun c o e h1 h2 => b c o (a c o e h1 h2) h1 h2
theorem Ot.of {D C : Addr} {H H' : Hp} (s : Same H H') : Ot D C H H' := fun b o e _ _ => s b o e
theorem Ot.kp {D C : Addr} {H H' : Hp} {n : Nat} (d : DeckAt H D C n) (h : Ot D C H H') : Kp H H' := fun b o e h1 h2 => by
  obtain ⟨cs, m, k, hD, hC, _⟩ := d.ex
  refine h b o e ?_ ?_
  · rintro rfl; rw [hD] at e; exact h2 _ (Option.some.inj e).symm
  · rintro rfl; rw [hC] at e; exact h1 _ (Option.some.inj e).symm
theorem DeckAt.same {H H' : Hp} {D C : Addr} {n : Nat} (s : Same H H') (d : DeckAt H D C n) : DeckAt H' D C n := by
  obtain ⟨cs, m, k, hD, hC, r⟩ := d.ex
  exact ⟨cs, m, k, s _ _ hD, s _ _ hC, r⟩
theorem DeckAt.mono {H : Hp} {D C : Addr} {n m : Nat} (h : n ≤ m) (d : DeckAt H D C n) : DeckAt H D C m := by
  obtain ⟨cs, m, k, hD, hC, r1, r2, r3, r4, r5⟩ := d.ex
  exact ⟨cs, m, k, hD, hC, r1, r2, r3, r4, by omega⟩
theorem DeckAt.ne {H : Hp} {D C : Addr} {n : Nat} (d : DeckAt H D C n) : D ≠ C := by
  obtain ⟨cs, m, k, hD, hC, _⟩ := d.ex
  rintro rfl
  rw [hD] at hC
  cases hC
end
section
variable {P : Program} {w : World} {K : PySem.W.Frag} {mg : Str → Option Value} {base : Heap}
def spDeck (K : PySem.W.Frag) : Sp := fun vs H Q _ => ∃ (a : Addr) (ns : List Int), vs = [.ref a] ∧ SqL K H a (ns.map V.int) ∧ ns.length ≤ 63 ∧ ∀ D C H', Same H H' → DeckAt H' D C 0 → Q (.ref D) H'
theorem ca_L_deck (T : Tx K mg) : Ca P w K mg base 1 "_law_deck" s_L_deck ["_law_script"] (spDeck K) := by
  refine Ca.of (fd_L_deck T) sc_L_deck ?_ ?_
  · rintro vs H Q E ⟨a, ns, rfl, _⟩; rfl
  · rintro f cdv A out s H vs Q E hr ⟨a, ns, rfl, hS, hl, q⟩
    refine ⟨_, (pss_cons (ps_set (i := 1) sc_L_deck.nd rfl (.inl rfl) pe_int)
 (pss_cons (ps_for PassesOwn.never rfl (pi_list (pe_slice sl_list (pv 0) po_none (po_some pe_int))) (pg_name (i := 2) sc_L_deck.nd rfl (.inl rfl))
 (pss_one (ps_set (i := 1) sc_L_deck.nd rfl (.inl rfl) (pe_op op_mod (pe_callTy call_int1 (by rfl) T.f_int (by decide +kernel) (pa_cons (pe_op op_add (pe_op op_add (pe_op op_mulW (pv 1) pe_int) (pe_op op_mod (pe_callTy call_int1 (by rfl) T.f_int (by decide +kernel) (pa_cons (pv 2) pa_nil)) pe_int)) pe_int) pa_nil)) pe_int))))
 (pss_one (ps_ret (pe_disp (pps_cons pe_str (pe_revL (pe_callTy call_list_of (by rfl) T.f_list (by decide +kernel) (pa_cons (pe_slice sl_list (pv 0) po_none (po_some pe_int)) pa_nil))) (pps_cons pe_str (pv 1) (pps_cons pe_str pe_int pps_nil))) (by rfl) (by rfl) (fun z => by cases z) (by decide)))))), ?_⟩
    have ec : cutV (ns.map V.int) none (some 63) = ns.map V.int := by
      unfold cutV
      have e1 : HT.sIx (ns.map V.int).length 0 none = 0 := rfl
      have e2 : HT.sIx (ns.map V.int).length (ns.map V.int).length (some 63) = (ns.map V.int).length := by
        rw [List.length_map]; simp [HT.sIx]; omega
      rw [e1, e2, List.drop_zero, List.take_of_length_le (by omega)]
    refine ⟨_, rfl, ?_⟩
    refine ⟨63, rfl, a, _, rfl, hS, fun p np => ?_⟩
    rw [ec]
    have s1 := same_new (o := .lst (ns.map V.int)) np
    refine ⟨p, rfl, ⟨_, sqL_new⟩, ?_⟩
    refine for_list (xs := ns.map V.int) (fun i σ H' => ∃ m y, σ = [some (.ref a), some (.int m), y] ∧ 0 ≤ m ∧ m < 2147483563 ∧ H' = upd H p (.lst (ns.map V.int))) ⟨10889209, none, rfl, by omega, by omega, rfl⟩ ?_ ?_ ?_
    · rintro i σ H' _ ⟨_, _, _, _, _, rfl⟩; exact sqL_new
    · rintro i x σ H' hx ⟨m, y, rfl, m0, m1, rfl⟩
      obtain ⟨c, hc, rfl⟩ := map_at hx
      have c0 : 0 ≤ c % 2147483549 := Int.emod_nonneg _ (by omega)
      have c1 : c % 2147483549 < 2147483549 := Int.emod_lt_of_pos _ (by omega)
      have e0 : 0 ≤ (m * 39373 + c % 2147483549 + 57) % 2147483563 := Int.emod_nonneg _ (by omega)
      have e1 : (m * 39373 + c % 2147483549 + 57) % 2147483563 < 2147483563 := Int.emod_lt_of_pos _ (by omega)
      refine ⟨_, rfl, _, _, rfl, rfl, wide_mul (a := 40) (b := 20) (by omega) (by omega) (by omega) (by omega) (by omega), _, rfl, .inl ⟨c, rfl, _, _, rfl, rfl, (by show (0 : Int) < 2147483549; omega), ?_⟩⟩
      exact ⟨_, _, rfl, rfl, _, _, rfl, rfl, .inl ⟨_, rfl, _, _, rfl, rfl, (by show (0 : Int) < 2147483563; omega), _, _, rfl, e0, e1, rfl⟩⟩
    · rintro σ H' ⟨m, y, rfl, m0, m1, rfl⟩
      intro d nd
      have s2 := same_new (o := .dK []) nd
      refine ⟨_, rfl, 63, rfl, a, _, rfl, (s1.trans s2).seq hS, fun p2 np2 => ?_⟩
      rw [ec]
      have s3 := same_new (o := .lst (ns.map V.int)) np2
      refine ⟨p2, _, rfl, .inl sqL_new, fun p3 np3 => ?_⟩
      have s4 := same_new (o := .lst (ns.map V.int)) np3
      refine ⟨p3, _, rfl, sqL_new, fun C nC => ?_⟩
      have s5 := same_new (o := .lst (ns.map V.int).reverse) nC
      refine ⟨_, rfl, ?_⟩
      have sA := (s2.trans s3).trans (s4.trans s5)
      have hd0 : (upd (upd (upd (upd (upd H p (.lst (ns.map V.int))) d (.dK [])) p2 (.lst (ns.map V.int))) p3 (.lst (ns.map V.int))) C (.lst (ns.map V.int).reverse)) d = some (.dK []) := ((s3.trans s4).trans s5) _ _ upd_same
      have hC0 : (upd (upd (upd (upd (upd H p (.lst (ns.map V.int))) d (.dK [])) p2 (.lst (ns.map V.int))) p3 (.lst (ns.map V.int))) C (.lst (ns.map V.int).reverse)) C = some (.lst (ns.map V.int).reverse) := upd_same
      generalize (upd (upd (upd (upd (upd H p (.lst (ns.map V.int))) d (.dK [])) p2 (.lst (ns.map V.int))) p3 (.lst (ns.map V.int))) C (.lst (ns.map V.int).reverse)) = H5 at *
      have ndC : d ≠ C := by rintro rfl; rw [hd0] at hC0; cases hC0
      refine ⟨hd0, deckK C m 0, rfl, by show 3 ≤ 15; omega, ?_⟩
      refine q d C _ ((s1.trans (same_write nd sA))) ⟨ns.reverse, m, 0, ?_, ?_, ?_, m0, m1, by omega, by omega⟩
      · rw [upd_same]; rfl
      · rw [upd_ne ndC.symm, hC0, List.map_reverse]
      · rw [List.length_reverse]; omega
end
end K02

namespace K02
open PySem PySem.Spec PyProof.Rows L2 Ly Am
section
theorem dv_cells (C : Addr) (m k : Int) : valV (deckK C m k) (Sum.inr "cells") = some (V.ref C) := by rfl
theorem dv_mixed (C : Addr) (m k : Int) : valV (deckK C m k) (Sum.inr "mixed") = some (V.int m) := by rfl
theorem dv_draws (C : Addr) (m k : Int) : valV (deckK C m k) (Sum.inr "draws") = some (V.int k) := by rfl
theorem dp_draws (C : Addr) (m k j : Int) : putK (deckK C m k) (Sum.inr "draws") (V.int j) = deckK C m j := by rfl
theorem dg_cells {H : Hp} {D C : Addr} {m k : Int} (h : H D = some (.dK (deckK C m k))) : DGet H D (.str "cells") (some (V.ref C)) := by
  have := DGet.k (k := Sum.inr "cells") h
  rw [dv_cells] at this; exact this
theorem dg_mixed {H : Hp} {D C : Addr} {m k : Int} (h : H D = some (.dK (deckK C m k))) : DGet H D (.str "mixed") (some (V.int m)) := by
  have := DGet.k (k := Sum.inr "mixed") h
  rw [dv_mixed] at this; exact this
theorem dg_draws {H : Hp} {D C : Addr} {m k : Int} (h : H D = some (.dK (deckK C m k))) : DGet H D (.str "draws") (some (V.int k)) := by
  have := DGet.k (k := Sum.inr "draws") h
  rw [dv_draws] at this; exact this
theorem lay_ints : ∀ cs : List Int, PyData.canLayAll0 (cs.map PyData.int) = true
  | [] => by simp [PyData.canLayAll0]
  | c :: r => by
    rw [List.map_cons, PyData.canLayAll0, lay_ints r]; simp [PyData.canLay0]
theorem sh_ints (cs : List Int) : SeqAt.shaped (.list (cs.map PyData.int)) = true := by
  unfold SeqAt.shaped
  rw [PyData.canLay0, lay_ints]
  have h1 := depth_ints cs
  have h2 : (PyData.list (cs.map PyData.int)).depth ≤ 64 := by
    rw [PyData.depth]; omega
  rw [decide_eq_true h2]; rfl
theorem dp_ints {K : PySem.W.Frag} {H : Hp} : ∀ cs : List Int, DpAll K H (cs.map V.int) (cs.map PyData.int)
  | [] => .nil
  | c :: r => .cons (.int c) (dp_ints r)
theorem eqv_nil (cs : List Int) : PyData.eqv (.list (cs.map PyData.int)) (.list []) = decide (cs = []) := by
  cases cs with
  | nil => simp [PyData.eqv, PyData.eqvAll]
  | cons x r => simp [PyData.eqv, PyData.eqvAll]
end
section
variable {P : Program} {w : World} {K : PySem.W.Frag} {mg : Str → Option Value} {base : Heap}
def spDraw : Sp := fun vs H Q _ => ∃ (D C : Addr) (n : Nat) (many : Int), vs = [.ref D, .int many] ∧ DeckAt H D C n ∧ n < 2 ^ 30 ∧ 0 < many ∧ many < 2 ^ 40 ∧
  ∀ r H', 0 ≤ r → r < many → Ot D C H H' → DeckAt H' D C (n + 1) → Q (.int r) H'
theorem ca_L_draw (T : Tx K mg) : Ca P w K mg base 1 "_law_draw" s_L_draw ["_law_deck_here", "_law_many"] spDraw := by
  refine Ca.of (fd_L_draw T) sc_L_draw ?_ ?_
  · rintro vs H Q E ⟨D, C, n, many, rfl, _⟩; rfl
  · rintro f cdv A out s H vs Q E hr ⟨D, C, n, many, rfl, da, hn, m0, m1, q⟩
    have dne := da.ne
    obtain ⟨cs, m, k, hD, hC, hl, a0, a1, k0, k1⟩ := da.ex
    refine ⟨_, (pss_cons (ps_dput (hu_of hr) (pv 0) pe_str (pe_op op_add (pe_dget (hu_of hr) (pv 0) pe_str (fun _ _ => rfl)) pe_int) rfl)
 (pss_cons (ps_set (i := 2) sc_L_draw.nd rfl (.inl rfl) (pe_op op_add (pe_dget (hu_of hr) (pv 0) pe_str (fun _ _ => rfl)) (pe_op op_mulW pe_int (pe_dget (hu_of hr) (pv 0) pe_str (fun _ _ => rfl)))))
 (pss_cons (ps_if (pt_cmpR (op_neD hr.units) (pe_dget (hu_of hr) (pv 0) pe_str (fun _ _ => rfl)) (pe_lst pa_nil) (nomark _))
 (pss_cons (ps_set (i := 3) sc_L_draw.nd rfl (.inl rfl) (pe_bm0 PySem.F.plainAttrs_list PySem.F.slot_list_pop PySem.F.type_list_pop mt_pop (pe_dget (hu_of hr) (pv 0) pe_str (fun _ _ => rfl))))
 (pss_cons (ps_if (pt_cmpR op_ge (pv 3) (pe_op op_pow pe_int pe_int) (nomark _))
 (pss_cons (ps_expr (pe_bm PySem.F.plainAttrs_list PySem.F.slot_list_append PySem.F.type_list_append mt_append (pe_dget (hu_of hr) (pv 0) pe_str (fun _ _ => rfl)) (pa_cons (pe_op op_fdivW (pv 3) (pe_callB (call_max2 rfl) (by rfl) T.f_max (by decide +kernel) (pa_cons pe_int (pa_cons (pv 1) pa_nil)))) pa_nil)))
 (pss_one (ps_ret (pe_op op_mod (pe_callTy call_int1 (by rfl) T.f_int (by decide +kernel) (pa_cons (pv 3) pa_nil)) (pv 1)))))
 pss_nil)
 (pss_one (ps_set (i := 2) sc_L_draw.nd rfl (.inl rfl) (pe_op op_add (pv 2) (pe_op op_mod (pe_callTy call_int1 (by rfl) T.f_int (by decide +kernel) (pa_cons (pv 3) pa_nil)) pe_int))))))
 pss_nil)
 (pss_cons (ps_set (i := 2) sc_L_draw.nd rfl (.inl rfl) (pe_op op_mod (pe_callTy call_int1 (by rfl) T.f_int (by decide +kernel) (pa_cons (pe_op op_add (pe_op op_mulW (pv 2) pe_int) pe_int) pa_nil)) pe_int))
 (pss_cons (ps_set (i := 2) sc_L_draw.nd rfl (.inl rfl) (pe_op op_mod (pe_callTy call_int1 (by rfl) T.f_int (by decide +kernel) (pa_cons (pe_op op_add (pe_op op_add (pe_op op_mulW (pv 2) (pv 2)) (pe_op op_mulW pe_int (pe_dget (hu_of hr) (pv 0) pe_str (fun _ _ => rfl)))) pe_int) pa_nil)) pe_int))
 (pss_cons (ps_set (i := 2) sc_L_draw.nd rfl (.inl rfl) (pe_op op_mod (pe_callTy call_int1 (by rfl) T.f_int (by decide +kernel) (pa_cons (pe_op op_mulW (pv 2) pe_int) pa_nil)) pe_int))
 (pss_one (ps_ret (pe_op op_mod (pe_callTy call_int1 (by rfl) T.f_int (by decide +kernel) (pa_cons (pe_op op_fdiv (pv 2) pe_int) pa_nil)) (pv 1)))))))))), ?_⟩
    have ml : many.natAbs.log2 < 9000 := by
      have : many.natAbs.log2 < 41 := (Nat.log2_lt (by omega)).mpr (by omega)
      omega
    refine ⟨_, rfl, D, V.int k, rfl, dg_draws hD, _, _, rfl, rfl, ?_⟩
    refine ⟨_, rfl, D, _, rfl, DPut.k (k := Sum.inr "draws") hD (by show 3 < sizeLine; rw [sizeLine_eq]; omega), ?_⟩
    rw [dp_draws]
    have hD1 : (upd H D (.dK (deckK C m (k + 1)))) D = some (.dK (deckK C m (k + 1))) := upd_same
    have hC1 : (upd H D (.dK (deckK C m (k + 1)))) C = some (.lst (cs.map V.int)) := by rw [upd_ne dne.symm]; exact hC
    have o1 : Ot D C H (upd H D (.dK (deckK C m (k + 1)))) := fun b o e h1 _ => by rw [upd_ne h1]; exact e
    generalize upd H D (.dK (deckK C m (k + 1))) = H1 at *
    refine ⟨_, rfl, D, _, rfl, dg_mixed hD1, _, rfl, D, _, rfl, dg_draws hD1, _, _, rfl, rfl, wide_mul (a := 40) (b := 60) (by omega) (by omega) (by omega) (by omega) (by omega), _, _, rfl, rfl, ?_⟩
    have n0 : 0 ≤ m + 68473 * (k + 1) := by omega
    have n1 : m + 68473 * (k + 1) < 2 ^ 61 := by omega
    dsimp only
    generalize m + 68473 * (k + 1) = num at *
    refine ⟨_, rfl, D, _, rfl, dg_cells hD1, ?_⟩
    refine ⟨by show 0 ≤ sizeLine; omega, fun pz nz => ?_⟩
    have sz := same_new (o := .lst []) nz
    refine ⟨.list (cs.map PyData.int), .list [], .lst (sz.seq (.inl (.inl hC1))) (dp_ints cs), .lst sqL_new .nil, sh_ints cs, rfl, _, rfl, ?_⟩
    rw [eqv_nil]
    have o2 : Ot D C H (upd H1 pz (.lst [])) := o1.trans (Ot.of sz)
    have hD2 := sz _ _ hD1
    have hC2 := sz _ _ hC1
    generalize (upd H1 pz (.lst [])) = H2 at *
    by_cases ce : cs = []
    · rw [decide_eq_true ce]
      refine iteF ?_
      obtain ⟨cs', hcs'⟩ : ∃ cs' : List Int, cs' = cs := ⟨_, rfl⟩
      rw [← hcs'] at hC2
      have ln : cs'.length ≤ 1000 := by rw [hcs']; exact hl
      refine ⟨_, rfl, _, _, rfl, rfl, wide_mul (a := 62) (b := 20) (by omega) (by omega) (by omega) (by omega) (by omega), _, _, rfl, rfl, .inl ⟨_, rfl, _, _, rfl, rfl, (by show (0 : Int) < 2147483647; omega), ?_⟩⟩
      have u0 : 0 ≤ (num * 40014 + 57) % 2147483647 := Int.emod_nonneg _ (by omega)
      have u1 : (num * 40014 + 57) % 2147483647 < 2147483647 := Int.emod_lt_of_pos _ (by omega)
      generalize (num * 40014 + 57) % 2147483647 = x1 at *
      refine ⟨_, rfl, _, rfl, _, _, rfl, rfl, wide_mul (a := 40) (b := 40) (by omega) (by omega) (by omega) (by omega) (by omega), _, rfl, D, _, rfl, dg_draws hD2, _, _, rfl, rfl, wide_mul (a := 40) (b := 60) (by omega) (by omega) (by omega) (by omega) (by omega), _, _, rfl, rfl, _, _, rfl, rfl, .inl ⟨_, rfl, _, _, rfl, rfl, (by show (0 : Int) < 2147483563; omega), ?_⟩⟩
      have u2 : 0 ≤ (x1 * x1 + 58109 * (k + 1) + 53) % 2147483563 := Int.emod_nonneg _ (by omega)
      have u3 : (x1 * x1 + 58109 * (k + 1) + 53) % 2147483563 < 2147483563 := Int.emod_lt_of_pos _ (by omega)
      generalize (x1 * x1 + 58109 * (k + 1) + 53) % 2147483563 = x2 at *
      refine ⟨_, rfl, _, _, rfl, rfl, wide_mul (a := 40) (b := 20) (by omega) (by omega) (by omega) (by omega) (by omega), .inl ⟨_, rfl, _, _, rfl, rfl, (by show (0 : Int) < 2147483549; omega), ?_⟩⟩
      refine ⟨_, rfl, _, _, rfl, rfl, ⟨by omega, by omega⟩, .inl ⟨_, rfl, _, rfl, _, _, rfl, rfl, m0, ?_⟩⟩
      exact q _ H2 (Int.emod_nonneg _ (by omega)) (Int.emod_lt_of_pos _ m0) o2 ⟨cs', m, k + 1, hD2, hC2, ln, a0, a1, by omega, by omega⟩
    · rw [decide_eq_false ce]
      refine iteT ?_
      obtain ⟨cs', c, hcs⟩ : ∃ (cs' : List Int) (c : Int), cs = cs' ++ [c] := ⟨cs.dropLast, cs.getLast ce, (List.dropLast_concat_getLast ce).symm⟩
      have l1 : cs'.length + 1 = cs.length := by rw [hcs, List.length_append]; rfl
      refine ⟨_, rfl, D, _, rfl, dg_cells hD2, ?_, C, _, V.int c, rfl, rfl, hC2, ?_, ?_⟩
      · exact .inl ⟨rfl, _, .inl (.inl hC2)⟩
      · rw [hcs, List.map_append, List.length_append, List.length_map]
        simp
      have ed : (cs.map V.int).dropLast = cs'.map V.int := by
        rw [hcs, List.map_append]; simp
      rw [ed]
      have hC3 : (upd H2 C (.lst (cs'.map V.int))) C = some (.lst (cs'.map V.int)) := upd_same
      have hD3 : (upd H2 C (.lst (cs'.map V.int))) D = some (.dK (deckK C m (k + 1))) := by rw [upd_ne dne]; exact hD2
      have o3 : Ot D C H (upd H2 C (.lst (cs'.map V.int))) := o2.trans fun b o e _ h => by rw [upd_ne h]; exact e
      generalize (upd H2 C (.lst (cs'.map V.int))) = H3 at *
      refine ⟨_, rfl, _, _, rfl, rfl, ⟨by omega, by omega, by decide⟩, _, _, rfl, rfl, _, rfl, ite2 (fun c1 => ?_) (fun c1 => ?_)⟩
      · refine ⟨_, rfl, D, _, rfl, dg_cells hD3, .inl ⟨rfl, _, .inl (.inl hC3)⟩, _, rfl, _, rfl, 2, many, rfl, ?_⟩
        have hm : 0 < (if many > 2 then many else 2) := by split <;> omega
        have hm2 : (if many > 2 then many else 2) < 2 ^ 40 := by split <;> omega
        generalize (if many > 2 then many else 2) = mm at *
        refine ⟨_, _, rfl, rfl, ⟨hm, ?_⟩, C, _, _, rfl, rfl, hC3, by rw [List.length_map, sizeLine_eq]; omega, ?_⟩
        · have : mm.natAbs.log2 < 41 := (Nat.log2_lt (by omega)).mpr (by omega)
          omega
        · refine ⟨_, rfl, .inl ⟨c, rfl, _, rfl, _, _, rfl, rfl, m0, ?_⟩⟩
          refine q _ _ (Int.emod_nonneg _ (by omega)) (Int.emod_lt_of_pos _ m0) (o3.trans fun b o e _ h => by rw [upd_ne h]; exact e) ⟨cs' ++ [c / mm], m, k + 1, ?_, ?_, ?_, a0, a1, by omega, by omega⟩
          · rw [upd_ne dne]; exact hD3
          · rw [upd_same, List.map_append]; rfl
          · rw [List.length_append]; show cs'.length + 1 ≤ _; omega
      · have c0 : 0 ≤ c % 2147483549 := Int.emod_nonneg _ (by omega)
        have c2 : c % 2147483549 < 2147483549 := Int.emod_lt_of_pos _ (by omega)
        refine ⟨_, rfl, _, rfl, .inl ⟨c, rfl, _, _, rfl, rfl, (by show (0 : Int) < 2147483549; omega), _, _, rfl, rfl, ?_⟩⟩
        have n2 : 0 ≤ num + c % 2147483549 := by omega
        have n3 : num + c % 2147483549 < 2 ^ 62 := by omega
        dsimp only
        generalize num + c % 2147483549 = num2 at *
        have ln : cs'.length ≤ 1000 := by omega
        refine ⟨_, rfl, _, _, rfl, rfl, wide_mul (a := 62) (b := 20) (by omega) (by omega) (by omega) (by omega) (by omega), _, _, rfl, rfl, .inl ⟨_, rfl, _, _, rfl, rfl, (by show (0 : Int) < 2147483647; omega), ?_⟩⟩
        have u0 : 0 ≤ (num2 * 40014 + 57) % 2147483647 := Int.emod_nonneg _ (by omega)
        have u1 : (num2 * 40014 + 57) % 2147483647 < 2147483647 := Int.emod_lt_of_pos _ (by omega)
        generalize (num2 * 40014 + 57) % 2147483647 = x1 at *
        refine ⟨_, rfl, _, rfl, _, _, rfl, rfl, wide_mul (a := 40) (b := 40) (by omega) (by omega) (by omega) (by omega) (by omega), _, rfl, D, _, rfl, dg_draws hD3, _, _, rfl, rfl, wide_mul (a := 40) (b := 60) (by omega) (by omega) (by omega) (by omega) (by omega), _, _, rfl, rfl, _, _, rfl, rfl, .inl ⟨_, rfl, _, _, rfl, rfl, (by show (0 : Int) < 2147483563; omega), ?_⟩⟩
        have u2 : 0 ≤ (x1 * x1 + 58109 * (k + 1) + 53) % 2147483563 := Int.emod_nonneg _ (by omega)
        have u3 : (x1 * x1 + 58109 * (k + 1) + 53) % 2147483563 < 2147483563 := Int.emod_lt_of_pos _ (by omega)
        generalize (x1 * x1 + 58109 * (k + 1) + 53) % 2147483563 = x2 at *
        refine ⟨_, rfl, _, _, rfl, rfl, wide_mul (a := 40) (b := 20) (by omega) (by omega) (by omega) (by omega) (by omega), .inl ⟨_, rfl, _, _, rfl, rfl, (by show (0 : Int) < 2147483549; omega), ?_⟩⟩
        refine ⟨_, rfl, _, _, rfl, rfl, ⟨by omega, by omega⟩, .inl ⟨_, rfl, _, rfl, _, _, rfl, rfl, m0, ?_⟩⟩
        exact q _ H3 (Int.emod_nonneg _ (by omega)) (Int.emod_lt_of_pos _ m0) o3 ⟨cs', m, k + 1, hD3, hC3, ln, a0, a1, by omega, by omega⟩
end
end K02

namespace K02
open PySem PySem.Spec PyProof.Rows L2 Ly Am
section
variable {P : Program} {w : World} {K : PySem.W.Frag} {mg : Str → Option Value} {base : Heap}
local macro_rules | `(tactic| walk_at "isint") => `(tactic| refine ⟨_, "int", true, false, rfl, tyx_int, by decide +kernel, by decide +kernel, ?_⟩)
def spGcd : Sp := fun vs H Q _ => ∃ (a b : Int), vs = [.int a, .int b] ∧ b.natAbs < 2 ^ 64 ∧ Q (.int ((Nat.gcd a.natAbs b.natAbs : Nat) : Int)) H
theorem ca_L_gcd (T : Tx K mg) : Ca P w K mg base 1 "_law_gcd" s_L_gcd ["_law_a", "_law_b"] spGcd := by
  refine Ca.of (fd_L_gcd T) sc_L_gcd ?_ ?_
  · rintro vs H Q E ⟨a, b, rfl, _⟩; rfl
  · rintro f cdv A out s H vs Q E hr ⟨a, b, rfl, hb, q⟩
    refine ⟨_, (pss_cons (ps_for PassesOwn.never rfl (pi_range1 (by rfl) T.f_range (pa_cons pe_int pa_nil)) (pg_name (i := 2) sc_L_gcd.nd rfl (.inl rfl))
 (pss_cons (ps_if (pt_cmpR op_eq (pv 1) pe_int (nomark _))
 (pss_one (ps_ret (pe_callB call_abs (by rfl) T.f_abs (by decide +kernel) (pa_cons (pv 0) pa_nil))))
 pss_nil)
 (pss_one (ps_par (i := 0) (j := 1) rfl sc_L_gcd.nd rfl rfl (by decide) rfl rfl (pa_cons (pv 1) (pa_cons (pe_op op_modN (pe_callTy call_int1 (by rfl) T.f_int (by decide +kernel) (pa_cons (pv 0) pa_nil)) (pv 1)) pa_nil)) rfl))))
 (pss_one (ps_ret (pe_callB call_abs (by rfl) T.f_abs (by decide +kernel) (pa_cons (pv 0) pa_nil))))), ?_⟩
    generalize eg : Nat.gcd a.natAbs b.natAbs = g at *
    refine ⟨200, rfl, by omega, by omega, ?_⟩
    refine for_range (fun i σ H' => ∃ a b y, σ = [some (.int a), some (.int b), y] ∧ GI g i a b ∧ H' = H) ⟨a, b, none, rfl, ⟨eg, .inl ⟨rfl, hb⟩⟩, rfl⟩ ?_ ?_
    · rintro i σ H' hi ⟨a, b, y, rfl, gi, rfl⟩
      have ab : ∀ x : Int, (if x < 0 then -x else x) = (x.natAbs : Int) := fun x => by split <;> omega
      refine ⟨_, rfl, rfl, _, rfl, ite2 (fun c => ?_) (fun c => ?_)⟩
      · have b0 : b = 0 := V.int.inj (of_decide_eq_true c)
        subst b0
        have z := q
        rw [← gi.end, ← ab] at z
        exact ⟨_, rfl, a, rfl, z⟩
      · have b0 : b ≠ 0 := fun z => c (decide_eq_true (congrArg V.int z))
        exact ⟨_, rfl, _, rfl, .inl ⟨a, rfl, _, rfl, _, _, rfl, rfl, b0, _, _, rfl, _, _, _, rfl, gi.step b0, rfl⟩⟩
    · rintro σ H' ⟨a, b, y, rfl, gi, rfl⟩
      have ab : ∀ x : Int, (if x < 0 then -x else x) = (x.natAbs : Int) := fun x => by split <;> omega
      have b0 := gi.out (by decide)
      subst b0
      have z := q
      rw [← gi.end, ← ab] at z
      exact ⟨_, rfl, a, rfl, z⟩
def spLPrime : Sp := fun vs H Q _ => ∃ n : Nat, vs = [.int n] ∧ n < 1000000 ∧ ∀ b H', Same H H' → (b = true ↔ Pr n) → Q (.bl b) H'
/-- whether 2 + j is told -/
def tq (n j : Nat) : Bool := decide ((2 + j) * (2 + j) ≤ n ∧ n % (2 + j) = 0)
theorem tq_nil {n m : Nat} (h2 : 2 ≤ n) (h : n < (m + 2) * (m + 2)) : (List.range m).filter (tq n) = [] ↔ Pr n := by
  rw [← pr_sq h2, List.filter_eq_nil_iff]
  constructor
  · intro z d d2 dd c
    have dm : d < m + 2 := by
      apply Nat.lt_of_not_le
      intro y
      have := Nat.mul_self_le_mul_self y
      omega
    have := z (d - 2) (List.mem_range.mpr (by omega))
    apply this
    unfold tq
    rw [show 2 + (d - 2) = d by omega]
    exact decide_eq_true ⟨dd, c⟩
  · intro z j hj c
    have := of_decide_eq_true c
    exact z (2 + j) (by omega) this.1 this.2
def tql (n i : Nat) : List V := (((List.range i).filter (tq n)).map fun j => ((2 + j : Nat) : Int)).map V.int
theorem tql_yes {n i : Nat} (h : tq n i = true) : tql n (i + 1) = tql n i ++ [V.int (2 + (i : Int))] := by
  unfold tql
  rw [List.range_succ, List.filter_append, List.map_append, List.map_append]
  congr 1
  simp [h]
theorem tql_no {n i : Nat} (h : tq n i = false) : tql n (i + 1) = tql n i := by
  unfold tql
  rw [List.range_succ, List.filter_append, List.map_append, List.map_append]
  simp [h]
theorem tql_len (n i : Nat) : (tql n i).length ≤ i := by
  unfold tql
  rw [List.length_map, List.length_map]
  have := List.length_filter_le (tq n) (List.range i)
  rwa [List.length_range] at this
theorem ca_L_is_prime (T : Tx K mg) : Ca P w K mg base 1 "_law_is_prime" s_L_is_prime ["_law_p"] spLPrime := by
  refine Ca.of (fd_L_is_prime T) sc_L_is_prime ?_ ?_
  · rintro vs H Q E ⟨n, rfl, _⟩; rfl
  · rintro f cdv A out s H vs Q E hr ⟨n, rfl, hn, q⟩
    refine ⟨_, (pss_cons (ps_if (pt_not (pt_chain op_lt op_lt pe_int (pv 0) pe_int))
 (pss_one (ps_ret pe_bl))
 pss_nil)
 (pss_one (ps_ret (pe_cmpR (op_eqD hr.units) (pe_lc (own := [("_law_q", 1)]) rfl sc_L_is_prime.nd (pi_range2 (by rfl) T.f_range (pa_cons pe_int (pa_cons (pe_ifExp (pt_cmpR op_lt (pv 0) pe_int (nomark _)) pe_int pe_int) pa_nil))) (blkOk_by (own := [("_law_q", 1)]) (N := n_L_is_prime) (sc := (defScope s_L_is_prime)) (by decide +kernel)) (fun _ _ _ _ _ => (pg_name (i := 1) sc_L_is_prime.nd rfl (Or.inl rfl) (Or.inr rfl))) (fun _ _ _ _ _ => (pts_one (PW.pt (pw_and (pt_cmpR op_le (pe_op op_mulW (pv 1) (pv 1)) (pv 0) (nomark _)) (pw_and1 (pt_cmpR op_eq (pe_op op_mod (pe_callTy call_int1 (by rfl) T.f_int (by decide +kernel) (pa_cons (pv 0) pa_nil)) (pv 1)) pe_int (nomark _))))))) (fun _ _ _ _ _ => (pv 1))) (pe_lst pa_nil) (nomark _))))), ?_⟩
    refine ⟨_, rfl, _, _, rfl, rfl, _, rfl, ite2 (fun c => ?_) (fun c => ?_)⟩
    · have c' : (1 : Int) < n := of_decide_eq_true c
      refine ⟨_, _, rfl, rfl, _, rfl, ?_⟩
      have e1 : decide ((n : Int) < 1000000) = true := decide_eq_true (by omega)
      rw [e1]
      refine iteF ?_
      have n2 : 2 ≤ n := by omega
      refine ⟨_, rfl, _, _, rfl, rfl, _, rfl, ite2 (fun c2 => ?_) (fun c2 => ?_)⟩
      · have c3 : (n : Int) < 1000 := of_decide_eq_true c2
        have e4 : n < 32 * 32 := by omega
        refine ⟨2, 32, rfl, by decide, fun D nD => ?_⟩
        refine lc_range (lo := 2) (n := 30) (fun i H' => Same H H' ∧ H' D = some (.lst (tql n i))) ⟨same_new nD, upd_same⟩ ?_ ?_
        · rintro i H' hi ⟨sm, hD⟩
          have ci : (2 + (i : Int)) = ((2 + i : Nat) : Int) := by omega
          refine ⟨rfl, ?_⟩
          refine ⟨_, rfl, _, rfl, _, _, rfl, rfl, wide_mul (a := 20) (b := 20) (by omega) (by omega) (by omega) (by omega) (by omega), _, rfl, _, _, rfl, rfl, _, rfl, ite2 (fun c5 => ?_) (fun c5 => ?_)⟩
          · have c6 : (2 + (i : Int)) * (2 + (i : Int)) ≤ (n : Int) := of_decide_eq_true c5
            refine ⟨_, rfl, .inl ⟨_, rfl, _, rfl, _, _, rfl, rfl, (by omega), rfl, _, rfl, ite2 (fun c7 => ?_) (fun c7 => ?_)⟩⟩
            · have c8 : (n : Int) % (2 + (i : Int)) = 0 := V.int.inj (of_decide_eq_true c7)
              have tqt : tq n i = true := by
                rw [ci] at c6 c8
                exact decide_eq_true ⟨by exact_mod_cast c6, by omega⟩
              refine ⟨_, rfl, _, hD, ?_, same_write nD sm, ?_⟩
              · have := tql_len n i
                rw [sizeLine_eq]; omega
              · rw [upd_same, tql_yes tqt]
            · have c8 : ¬ (n : Int) % (2 + (i : Int)) = 0 := fun z => c7 (decide_eq_true (congrArg V.int z))
              have tqf : tq n i = false := by
                rw [ci] at c8
                exact decide_eq_false fun z => c8 (by omega)
              refine ⟨sm, ?_⟩
              rw [tql_no tqf]; exact hD
          · have c6 : ¬ (2 + (i : Int)) * (2 + (i : Int)) ≤ (n : Int) := fun z => c5 (decide_eq_true z)
            have tqf : tq n i = false := by
              rw [ci] at c6
              exact decide_eq_false fun z => c6 (by exact_mod_cast z.1)
            refine ⟨sm, ?_⟩
            rw [tql_no tqf]; exact hD
        · rintro H' ⟨sm, hD⟩
          refine ⟨by show 0 ≤ sizeLine; omega, fun pz nz => ?_⟩
          have sz := same_new (o := .lst []) nz
          refine ⟨.list ((((List.range 30).filter (tq n)).map fun j => ((2 + j : Nat) : Int)).map PyData.int), .list [], .lst (.inl (.inl (sz _ _ hD))) (dp_ints _), .lst sqL_new .nil, sh_ints _, rfl, ?_⟩
          rw [eqv_nil]
          refine q _ _ (sm.trans sz) ?_
          rw [← tq_nil (m := 30) n2 e4, decide_eq_true_iff]
          simp
      · have e4 : n < 1000 * 1000 := by omega
        refine ⟨2, 1000, rfl, by decide, fun D nD => ?_⟩
        refine lc_range (lo := 2) (n := 998) (fun i H' => Same H H' ∧ H' D = some (.lst (tql n i))) ⟨same_new nD, upd_same⟩ ?_ ?_
        · rintro i H' hi ⟨sm, hD⟩
          have ci : (2 + (i : Int)) = ((2 + i : Nat) : Int) := by omega
          refine ⟨rfl, ?_⟩
          refine ⟨_, rfl, _, rfl, _, _, rfl, rfl, wide_mul (a := 20) (b := 20) (by omega) (by omega) (by omega) (by omega) (by omega), _, rfl, _, _, rfl, rfl, _, rfl, ite2 (fun c5 => ?_) (fun c5 => ?_)⟩
          · have c6 : (2 + (i : Int)) * (2 + (i : Int)) ≤ (n : Int) := of_decide_eq_true c5
            refine ⟨_, rfl, .inl ⟨_, rfl, _, rfl, _, _, rfl, rfl, (by omega), rfl, _, rfl, ite2 (fun c7 => ?_) (fun c7 => ?_)⟩⟩
            · have c8 : (n : Int) % (2 + (i : Int)) = 0 := V.int.inj (of_decide_eq_true c7)
              have tqt : tq n i = true := by
                rw [ci] at c6 c8
                exact decide_eq_true ⟨by exact_mod_cast c6, by omega⟩
              refine ⟨_, rfl, _, hD, ?_, same_write nD sm, ?_⟩
              · have := tql_len n i
                rw [sizeLine_eq]; omega
              · rw [upd_same, tql_yes tqt]
            · have c8 : ¬ (n : Int) % (2 + (i : Int)) = 0 := fun z => c7 (decide_eq_true (congrArg V.int z))
              have tqf : tq n i = false := by
                rw [ci] at c8
                exact decide_eq_false fun z => c8 (by omega)
              refine ⟨sm, ?_⟩
              rw [tql_no tqf]; exact hD
          · have c6 : ¬ (2 + (i : Int)) * (2 + (i : Int)) ≤ (n : Int) := fun z => c5 (decide_eq_true z)
            have tqf : tq n i = false := by
              rw [ci] at c6
              exact decide_eq_false fun z => c6 (by exact_mod_cast z.1)
            refine ⟨sm, ?_⟩
            rw [tql_no tqf]; exact hD
        · rintro H' ⟨sm, hD⟩
          refine ⟨by show 0 ≤ sizeLine; omega, fun pz nz => ?_⟩
          have sz := same_new (o := .lst []) nz
          refine ⟨.list ((((List.range 998).filter (tq n)).map fun j => ((2 + j : Nat) : Int)).map PyData.int), .list [], .lst (.inl (.inl (sz _ _ hD))) (dp_ints _), .lst sqL_new .nil, sh_ints _, rfl, ?_⟩
          rw [eqv_nil]
          refine q _ _ (sm.trans sz) ?_
          rw [← tq_nil (m := 998) n2 e4, decide_eq_true_iff]
          simp
    · refine ⟨_, rfl, iteT ?_⟩
      refine q false H (Same.refl H) ⟨(fun z => nomatch z), fun z => ?_⟩
      have := z.two
      exact absurd (decide_eq_true (by omega)) c
end
end K02

namespace K02
open PySem PySem.Spec PyProof.Rows L2 Ly Am
section
variable {P : Program} {w : World} {K : PySem.W.Frag} {mg : Str → Option Value} {base : Heap}
local macro_rules | `(tactic| walk_at "isint") => `(tactic| refine ⟨_, "int", true, false, rfl, tyx_int, by decide +kernel, by decide +kernel, ?_⟩)
def spOwn (K : PySem.W.Frag) : Sp := fun vs H Q _ => ∃ (v : V) (d : Int) (L : List (Int × Int)), vs = [v] ∧ AmtAt K H v d L ∧ AmOk d L ∧ ∀ H', Same H H' → Q (.bl true) H'
theorem ne_no {n m : Int} (h : n = m) : (!decide (V.int n = V.int m)) = false := by rw [h]; simp
theorem ca_L_is_own_amount (T : Tx K mg) : Ca P w K mg base 2 "_law_is_own_amount" s_L_is_own_amount ["_law_thing"] (spOwn K) := by
  have C_L_is_integer := ca_L_is_integer (P := P) (w := w) (base := base) T
  have C_L_is_prime := ca_L_is_prime (P := P) (w := w) (base := base) T
  have C_L_gcd := ca_L_gcd (P := P) (w := w) (base := base) T
  refine Ca.of (fd_L_is_own_amount T) sc_L_is_own_amount ?_ ?_
  · rintro vs H Q E ⟨v, d, L, rfl, _⟩; rfl
  · rintro f cdv A out s H vs Q E hr ⟨_, d, L, rfl, ⟨a, b, rs, rfl, h1, h2, h3⟩, ok, q⟩
    refine ⟨_, (pss_cons (ps_if (PW.pt (pw_or (pt_not (pt_val (pe_callB call_isi (by rfl) T.f_isinstance (by decide +kernel) (pa_cons (pv 0) (pa_cons (pe_bltn (v := .ty "tuple") (by rfl) T.f_tuple (by decide +kernel) rfl) pa_nil))))) (pw_or (pt_cmpR op_ne (pe_callB call_len_seq (by rfl) T.f_len (by decide +kernel) (pa_cons (pv 0) pa_nil)) pe_int (nomark _)) (pw_or (pt_not (pt_val (pe_ca C_L_is_integer hr (pa_cons (pe_ix ix_tup (pv 0) pe_int (fun _ _ => rfl)) pa_nil)))) (pw_or1 (pt_cmpR op_lt (pe_ix ix_tup (pv 0) pe_int (fun _ _ => rfl)) pe_int (nomark _)))))))
 (pss_one (ps_ret pe_bl))
 pss_nil)
 (pss_cons (ps_if (pt_not (pt_val (pe_callB call_isi (by rfl) T.f_isinstance (by decide +kernel) (pa_cons (pe_ix ix_tup (pv 0) pe_int (fun _ _ => rfl)) (pa_cons (pe_bltn (v := .ty "tuple") (by rfl) T.f_tuple (by decide +kernel) rfl) pa_nil)))))
 (pss_one (ps_ret pe_bl))
 pss_nil)
 (pss_cons (ps_par (i := 1) (j := 2) rfl sc_L_is_own_amount.nd rfl rfl (by decide) rfl rfl (pa_cons (pe_ix ix_tup (pv 0) pe_int (fun _ _ => rfl)) (pa_cons pe_int pa_nil)) rfl)
 (pss_cons (ps_for PassesOwn.never rfl (pi_tup (pe_ix ix_tup (pv 0) pe_int (fun _ _ => rfl))) (pg_name (i := 3) sc_L_is_own_amount.nd rfl (.inl rfl))
 (pss_cons (ps_if (PW.pt (pw_or (pt_not (pt_val (pe_callB call_isi (by rfl) T.f_isinstance (by decide +kernel) (pa_cons (pv 3) (pa_cons (pe_bltn (v := .ty "tuple") (by rfl) T.f_tuple (by decide +kernel) rfl) pa_nil))))) (pw_or (pt_cmpR op_ne (pe_callB call_len_seq (by rfl) T.f_len (by decide +kernel) (pa_cons (pv 3) pa_nil)) pe_int (nomark _)) (pw_or (pt_not (pt_val (pe_ca C_L_is_integer hr (pa_cons (pe_ix ix_tup (pv 3) pe_int (fun _ _ => rfl)) pa_nil)))) (pw_or1 (pt_not (pt_val (pe_ca C_L_is_integer hr (pa_cons (pe_ix ix_tup (pv 3) pe_int (fun _ _ => rfl)) pa_nil)))))))))
 (pss_one (ps_ret pe_bl))
 pss_nil)
 (pss_cons (ps_if (PW.pt (pw_or (pt_cmpR op_le (pe_ix ix_tup (pv 3) pe_int (fun _ _ => rfl)) (pv 2) (nomark _)) (pw_or (pt_cmpR op_eq (pe_ix ix_tup (pv 3) pe_int (fun _ _ => rfl)) pe_int (nomark _)) (pw_or1 (pt_not (pt_val (pe_ca C_L_is_prime hr (pa_cons (pe_ix ix_tup (pv 3) pe_int (fun _ _ => rfl)) pa_nil))))))))
 (pss_one (ps_ret pe_bl))
 pss_nil)
 (pss_one (ps_par (i := 1) (j := 2) rfl sc_L_is_own_amount.nd rfl rfl (by decide) rfl rfl (pa_cons (pe_ca C_L_gcd hr (pa_cons (pv 1) (pa_cons (pe_ix ix_tup (pv 3) pe_int (fun _ _ => rfl)) pa_nil))) (pa_cons (pe_ix ix_tup (pv 3) pe_int (fun _ _ => rfl)) pa_nil)) rfl)))))
 (pss_one (ps_ret (pe_cmpR op_eq (pv 1) pe_int (nomark _)))))))), ?_⟩
    have d1 := ok.cn.d1
    have rl : rs.length = L.length := Paired.length h3
    refine ⟨_, rfl, _, .ty "tuple", _, _, true, rfl, .ty "tuple", tyx_tup h1, kit_ty (by decide +kernel), true, rfl, iteF ?_⟩
    refine ⟨_, rfl, a, _, rfl, .inr h1, rfl, _, rfl, ?_⟩
    refine iteF ?_
    refine ⟨_, rfl, a, _, 0, _, rfl, rfl, h1, atI_nat (j := 0) rfl, ?_⟩
    walk_at "isint"
    refine ⟨true, rfl, iteF ?_⟩
    have e1 : decide (d < (1 : Int)) = false := decide_eq_false (by omega)
    refine ⟨_, rfl, a, _, 0, _, rfl, rfl, h1, atI_nat (j := 0) rfl, _, _, rfl, rfl, _, rfl, ?_⟩
    rw [e1]
    refine iteF ?_
    refine ⟨_, rfl, a, _, 1, _, rfl, rfl, h1, atI_nat (j := 1) rfl, _, .ty "tuple", _, _, true, rfl, .ty "tuple", tyx_tup h2, kit_ty (by decide +kernel), true, rfl, iteF ?_⟩
    refine ⟨_, rfl, a, _, 0, _, rfl, rfl, h1, atI_nat (j := 0) rfl, _, _, rfl, ?_⟩
    refine ⟨_, rfl, a, _, 1, _, rfl, rfl, h1, atI_nat (j := 1) rfl, b, rfl, ⟨_, h2⟩, ?_⟩
    refine for_tup (xs := rs.map V.ref) (fun i σ H' => ∃ la y3, σ = [some (.ref a), some (.int (gl d ((L.take i).map (·.2)))), some (.int la), y3] ∧ Same H H' ∧ ∀ u, L[i]? = some u → la < u.1) ⟨1, none, rfl, Same.refl H, ?_⟩ ?_ ?_ ?_
    · intro u hu
      obtain ⟨p, e, pr, _⟩ := ok.cn.pr u (List.mem_of_getElem? hu)
      have := pr.two; omega
    · rintro i σ H' _ ⟨_, _, _, sm, _⟩; exact SqT.same sm h2
    · rintro i x σ H' hx ⟨la, y3, rfl, sm, hla⟩
      obtain ⟨r, hr1, rfl⟩ := map_at hx
      obtain ⟨u, hu, hut0⟩ := Paired.at' h3 hr1
      have hut := SqT.same sm hut0
      have um := List.mem_of_getElem? hu
      obtain ⟨p, pe, pp, pl⟩ := ok.cn.pr u um
      have lt := hla u hu
      refine ⟨_, rfl, _, .ty "tuple", _, _, true, rfl, .ty "tuple", tyx_tup hut, kit_ty (by decide +kernel), true, rfl, iteF ?_⟩
      refine ⟨_, rfl, r, _, rfl, .inr hut, rfl, _, rfl, iteF ?_⟩
      refine ⟨_, rfl, r, _, 0, _, rfl, rfl, hut, atI_nat (j := 0) rfl, ?_⟩
      walk_at "isint"
      refine ⟨true, rfl, iteF ?_⟩
      refine ⟨_, rfl, r, _, 1, _, rfl, rfl, hut, atI_nat (j := 1) rfl, ?_⟩
      walk_at "isint"
      refine ⟨true, rfl, iteF ?_⟩
      have e2 : decide (u.1 ≤ la) = false := decide_eq_false (by omega)
      have e3 : decide (V.int u.2 = V.int 0) = false := decide_eq_false fun z => ok.cn.nz u um (V.int.inj z)
      refine ⟨_, rfl, r, _, 0, _, rfl, rfl, hut, atI_nat (j := 0) rfl, _, rfl, _, _, rfl, rfl, _, rfl, ?_⟩
      rw [e2]
      refine iteF ?_
      refine ⟨_, rfl, r, _, 1, _, rfl, rfl, hut, atI_nat (j := 1) rfl, rfl, _, rfl, ?_⟩
      rw [e3]
      refine iteF ?_
      refine ⟨_, rfl, r, _, 0, _, rfl, rfl, hut, atI_nat (j := 0) rfl, p, by show [V.int u.1] = _; rw [pe], pl, fun bb H3 s3 hb => ?_⟩
      have : bb = true := hb.mpr pp
      subst this
      refine ⟨true, rfl, iteF ?_⟩
      have hut3 := SqT.same s3 hut
      refine ⟨_, rfl, _, rfl, r, _, 1, _, rfl, rfl, hut3, atI_nat (j := 1) rfl, _, _, rfl, ok.par u um, ?_⟩
      refine ⟨_, rfl, r, _, 0, _, rfl, rfl, hut3, atI_nat (j := 0) rfl, _, _, rfl, u.1, some (.ref r), ?_, sm.trans s3, ?_⟩
      · rw [take_snoc _ hu, gl_snoc]; rfl
      · intro z hz
        obtain ⟨b1, c1⟩ := List.getElem?_eq_some_iff.mp hu
        obtain ⟨b2, c2⟩ := List.getElem?_eq_some_iff.mp hz
        have := List.pairwise_iff_getElem.mp ok.cn.asc i (i + 1) b1 b2 (by omega)
        rw [c1, c2] at this; exact this
    · rintro σ H' ⟨la, y3, rfl, sm, _⟩
      rw [List.length_map, rl, List.take_of_length_le (Nat.le_refl _), ok.cn.gcd]
      exact ⟨_, rfl, rfl, q H' sm⟩
end
end K02

namespace K02
open PySem PySem.Spec PyProof.Rows L2 Ly Am
section
variable {P : Program} {w : World} {K : PySem.W.Frag} {mg : Str → Option Value} {base : Heap}
/-- the law's own power -/
def spLPower : Sp := fun vs H Q _ => ∃ (b : Int) (e n : Nat), vs = [.int b, .int e] ∧ b.natAbs < 2 ^ n ∧ n * (2 * e) ≤ 900000 ∧ e < 2 ^ 39 ∧ Q (.int (b ^ e)) H
theorem ca_L_power (T : Tx K mg) : Ca P w K mg base 1 "_law_power" s_L_power ["_law_base", "_law_exponent"] spLPower := by
  refine Ca.of (fd_L_power T) sc_L_power ?_ ?_
  · rintro vs H Q E ⟨b, e, n, rfl, _⟩; rfl
  · rintro f cdv A out s H vs Q E hr ⟨b, e, n, rfl, hb, hn, he, q⟩
    refine ⟨_, (pss_cons (ps_par (i := 2) (j := 3) rfl sc_L_power.nd rfl rfl (by decide) rfl rfl (pa_cons pe_int (pa_cons (pv 1) pa_nil)) rfl)
 (pss_cons (ps_for PassesOwn.never rfl (pi_range1 (by rfl) T.f_range (pa_cons pe_int pa_nil)) (pg_name (i := 4) sc_L_power.nd rfl (.inl rfl))
 (pss_cons (ps_if (pt_cmpR op_eq (pv 3) pe_int (nomark _))
 (pss_one (ps_ret (pv 2)))
 pss_nil)
 (pss_cons (ps_if (pt_cmpR op_eq (pe_op op_mod (pe_callTy call_int1 (by rfl) T.f_int (by decide +kernel) (pa_cons (pv 3) pa_nil)) pe_int) pe_int (nomark _))
 (pss_one (ps_set (i := 2) sc_L_power.nd rfl (.inl rfl) (pe_op op_mulW (pv 2) (pv 0))))
 pss_nil)
 (pss_cons (ps_set (i := 3) sc_L_power.nd rfl (.inl rfl) (pe_op op_fdiv (pv 3) pe_int))
 (pss_one (ps_if (pt_cmpR op_gt (pv 3) pe_int (nomark _))
 (pss_one (ps_set (i := 0) sc_L_power.nd rfl (.inl rfl) (pe_op op_mulW (pv 0) (pv 0))))
 pss_nil))))))
 (pss_one (ps_ret (pv 2))))), ?_⟩
    refine ⟨_, rfl, _, _, rfl, ?_⟩
    refine ⟨40, rfl, by omega, by omega, ?_⟩
    have bits : ∀ j : Nat, (b ^ j).natAbs < 2 ^ (n * j + 1) := fun j => pow_bits hb j
    refine for_range (n := (40 : Int).toNat) (fun i σ H' => ∃ (j m l : Nat) (y : Option V), σ = [some (.int (b ^ m)), some (.int e), some (.int (b ^ j)), some (.int l), y] ∧ j + m * l = e ∧ l * 2 ^ i ≤ e ∧ H = H') ⟨0, 1, e, none, by rw [Int.pow_zero, Int.pow_succ, Int.pow_zero, Int.one_mul]; rfl, by omega, by omega, rfl⟩ ?_ ?_
    · rintro i σ H' hi ⟨j, m, l, y, rfl, e1, e2, rfl⟩
      refine ⟨_, rfl, rfl, _, rfl, ite2 (fun c => ?_) (fun c => ?_)⟩
      · have l0 : (l : Int) = 0 := V.int.inj (of_decide_eq_true c)
        have ej : j = e := by
          have : l = 0 := by omega
          rw [this, Nat.mul_zero] at e1; omega
        rw [ej]
        exact ⟨_, rfl, q⟩
      · have l0 : 0 < l := Nat.pos_of_ne_zero fun z => c (decide_eq_true (by rw [z]; rfl))
        have ml : m ≤ m * l := Nat.le_mul_of_pos_right _ l0
        have nb : n * (j + m) ≤ n * e := Nat.mul_le_mul_left _ (by omega)
        have nn : n * (2 * e) = 2 * (n * e) := Nat.mul_left_comm ..
        rw [Nat.mul_add] at nb
        have half : ((l : Int) / 2) = ((l / 2 : Nat) : Int) := by omega
        have lh : l / 2 * 2 ^ (i + 1) ≤ e := by
          rw [Nat.pow_succ, Nat.mul_comm (2 ^ i), ← Nat.mul_assoc]
          have : l / 2 * 2 ≤ l := Nat.div_mul_le_self l 2
          have := Nat.mul_le_mul_right (2 ^ i) this
          omega
        -- what is done with the rest
        have sq : ∀ (j' : Nat), j' + m * 2 * (l / 2) = e → 0 < l / 2 → CMulW (b ^ m) (b ^ m) := fun j' h0 h1 => by
          have m2 : m * 2 ≤ m * 2 * (l / 2) := Nat.le_mul_of_pos_right _ h1
          have : n * (m * 2) ≤ n * e := Nat.mul_le_mul_left _ (by omega)
          have e9 : n * (m * 2) = n * m + n * m := by rw [← Nat.mul_assoc]; omega
          exact wide_mul (bits m) (bits m) (by omega) (by omega) (by omega)
        refine ⟨_, rfl, .inl ⟨_, rfl, _, _, rfl, rfl, (by show (0 : Int) < 2; omega), rfl, _, rfl, ite2 (fun c2 => ?_) (fun c2 => ?_)⟩⟩
        · have odd : (l : Int) % 2 = 1 := V.int.inj (of_decide_eq_true c2)
          have ej : (j + m) + m * 2 * (l / 2) = e := by
            have : m * l = m * (2 * (l / 2) + 1) := by congr 1; omega
            rw [this, Nat.mul_add, Nat.mul_one, ← Nat.mul_assoc] at e1
            omega
          refine ⟨_, rfl, _, rfl, _, _, rfl, rfl, wide_mul (bits j) (bits m) (by omega) (by omega) (by omega), ?_⟩
          refine ⟨_, rfl, _, _, rfl, rfl, ⟨by omega, by omega⟩, ?_⟩
          refine ⟨_, rfl, _, _, rfl, rfl, _, rfl, ite2 (fun c3 => ?_) (fun c3 => ?_)⟩
          · have c4 : (0 : Int) < (l : Int) / 2 := of_decide_eq_true c3
            refine ⟨_, rfl, _, rfl, _, _, rfl, rfl, sq _ ej (by omega), j + m, m * 2, l / 2, some (.int (0 + (i : Int))), ?_, ej, lh, rfl⟩
            rw [← half, Int.pow_add, Int.pow_mul, Int.pow_succ (b ^ m) 1, Int.pow_succ (b ^ m) 0, Int.pow_zero, Int.one_mul]
            rfl
          · have c4 : ¬ (0 : Int) < (l : Int) / 2 := fun z => c3 (decide_eq_true z)
            have l2 : l / 2 = 0 := by omega
            refine ⟨j + m, m, l / 2, some (.int (0 + (i : Int))), ?_, by rw [l2, Nat.mul_zero] at ej ⊢; omega, lh, rfl⟩
            rw [← half, Int.pow_add]
            rfl
        · have ev : ¬ (l : Int) % 2 = 1 := fun z => c2 (decide_eq_true (congrArg V.int z))
          have ej : j + m * 2 * (l / 2) = e := by
            have : m * l = m * (2 * (l / 2)) := by congr 1; omega
            rw [this, ← Nat.mul_assoc] at e1
            exact e1
          refine ⟨_, rfl, _, _, rfl, rfl, ⟨by omega, by omega⟩, ?_⟩
          refine ⟨_, rfl, _, _, rfl, rfl, _, rfl, ite2 (fun c3 => ?_) (fun c3 => ?_)⟩
          · have c4 : (0 : Int) < (l : Int) / 2 := of_decide_eq_true c3
            refine ⟨_, rfl, _, rfl, _, _, rfl, rfl, sq _ ej (by omega), j, m * 2, l / 2, some (.int (0 + (i : Int))), ?_, ej, lh, rfl⟩
            rw [← half, Int.pow_mul, Int.pow_succ (b ^ m) 1, Int.pow_succ (b ^ m) 0, Int.pow_zero, Int.one_mul]
            rfl
          · have c4 : ¬ (0 : Int) < (l : Int) / 2 := fun z => c3 (decide_eq_true z)
            have l2 : l / 2 = 0 := by omega
            refine ⟨j, m, l / 2, some (.int (0 + (i : Int))), ?_, by rw [l2, Nat.mul_zero] at ej ⊢; omega, lh, rfl⟩
            rw [← half]
            rfl
    · rintro σ H' ⟨j, m, l, y, rfl, e1, e2, rfl⟩
      have l0 : l = 0 := by
        have e40 : (2 : Nat) ^ (40 : Int).toNat = 2 ^ 40 := rfl
        rw [e40] at e2
        omega
      have ej : j = e := by rw [l0, Nat.mul_zero] at e1; omega
      rw [ej]
      exact ⟨_, rfl, q⟩
end
end K02

namespace K02
open PySem PySem.Spec PyProof.Rows L2 Ly Am
section
variable {P : Program} {w : World} {K : PySem.W.Frag} {mg : Str → Option Value} {base : Heap}
def spSides (K : PySem.W.Frag) : Sp := fun vs H Q _ => ∃ (v : V) (d : Int) (L : List (Int × Int)) (n : Nat), vs = [v] ∧ AmtAt K H v d L ∧ Fits n 1 L ∧ ∀ t H', Same H H' → SqT K H' t [.int (up 1 L), .int (dn 1 L)] → Q (.ref t) H'
theorem ca_L_sides (T : Tx K mg) : Ca P w K mg base 2 "_law_sides" s_L_sides ["_law_amount"] (spSides K) := by
  have C_L_power := ca_L_power (P := P) (w := w) (base := base) T
  refine Ca.of (fd_L_sides T) sc_L_sides ?_ ?_
  · rintro vs H Q E ⟨v, d, L, n, rfl, _⟩; rfl
  · rintro f cdv A out s H vs Q E hr ⟨_, d, L, n, rfl, ⟨a, b, rs, rfl, h1, h2, h3⟩, ft, q⟩
    refine ⟨_, (pss_cons (ps_asg (pe_tup (pa_cons pe_int (pa_cons pe_int pa_nil))) (pg_tup rfl (pgs_cons (pg_name (i := 1) sc_L_sides.nd rfl (.inl rfl)) (pgs_cons (pg_name (i := 2) sc_L_sides.nd rfl (.inl rfl)) pgs_nil))))
 (pss_cons (ps_for PassesOwn.never rfl (pi_tup (pe_ix ix_tup (pv 0) pe_int (fun _ _ => rfl))) (pg_tup rfl (pgs_cons (pg_name (i := 3) sc_L_sides.nd rfl (.inl rfl)) (pgs_cons (pg_name (i := 4) sc_L_sides.nd rfl (.inl rfl)) pgs_nil)))
 (pss_one (ps_if (pt_cmpR op_gt (pv 4) pe_int (nomark _))
 (pss_one (ps_set (i := 1) sc_L_sides.nd rfl (.inl rfl) (pe_op op_mulW (pv 1) (pe_ca C_L_power hr (pa_cons (pv 3) (pa_cons (pv 4) pa_nil))))))
 (pss_one (ps_set (i := 2) sc_L_sides.nd rfl (.inl rfl) (pe_op op_mulW (pv 2) (pe_ca C_L_power hr (pa_cons (pv 3) (pa_cons (pe_un un_neg (pv 4)) pa_nil)))))))))
 (pss_one (ps_ret (pe_tup (pa_cons (pv 1) (pa_cons (pv 2) pa_nil))))))), ?_⟩
    have rl : rs.length = L.length := Paired.length h3
    refine ⟨by show 2 ≤ sizeLine; rw [sizeLine_eq]; omega, fun t0 nt0 => ?_⟩
    have u0 := same_new (o := .tup [V.int 1, V.int 1]) nt0
    refine ⟨t0, _, rfl, sqT_new, rfl, _, _, rfl, _, [], rfl, rfl, ?_⟩
    generalize upd H t0 (.tup [V.int 1, V.int 1]) = H0 at *
    refine ⟨_, rfl, a, _, 1, _, rfl, rfl, SqT.same u0 h1, atI_nat (j := 1) rfl, b, rfl, ⟨_, SqT.same u0 h2⟩, ?_⟩
    refine for_tup (xs := rs.map V.ref) (fun i σ H' => ∃ y3 y4, σ = [some (.ref a), some (.int (up 1 (L.take i))), some (.int (dn 1 (L.take i))), y3, y4] ∧ H0 = H') ⟨none, none, rfl, rfl⟩ ?_ ?_ ?_
    · rintro i σ H' _ ⟨_, _, _, rfl⟩; exact SqT.same u0 h2
    · rintro i x σ H' hx ⟨y3, y4, rfl, rfl⟩
      obtain ⟨r, hr1, rfl⟩ := map_at hx
      obtain ⟨u, hu, hut0⟩ := Paired.at' h3 hr1
      have hut := SqT.same u0 hut0
      have um := List.mem_of_getElem? hu
      obtain ⟨p0, pn⟩ := ft.pos u um
      have one := ft.one u um
      have ex := ft.ex u um
      have e2 : ((2 : Int) ^ n) = ((2 ^ n : Nat) : Int) := by simp
      have ba : ∀ q ∈ L.take i, q.1.natAbs < 2 ^ n := fun q hq => by
        obtain ⟨a1, a2⟩ := ft.pos q (List.mem_of_mem_take hq)
        omega
      have pb : u.1.natAbs < 2 ^ n := by omega
      have ub := up_bits (k := 1) ba
      have db := dn_bits (k := 1) ba
      have pw := pow_bits pb u.2.natAbs
      have len : (L.take i).length ≤ L.length := by rw [List.length_take]; omega
      have cs : n * (1 * cost (L.take i)) ≤ n * (1 * cost L) := Nat.mul_le_mul_left _ (Nat.mul_le_mul_left _ (cost_take L i))
      have cm : n * (1 * u.2.natAbs) ≤ n * (1 * cost L) := Nat.mul_le_mul_left _ (Nat.mul_le_mul_left _ (cost_mem um))
      rw [Nat.one_mul] at cm one
      have all := ft.all
      have tk : L.take (i + 1) = L.take i ++ [u] := by rw [List.take_add_one, hu]; rfl
      by_cases n0 : n = 0
      · exfalso
        rw [n0] at pb
        omega
      have e39 : u.2.natAbs < 2 ^ 39 := by
        have : 1 * (2 * u.2.natAbs) ≤ n * (2 * u.2.natAbs) := Nat.mul_le_mul_right _ (by omega)
        omega
      refine ⟨r, _, rfl, hut, rfl, _, _, rfl, _, [], rfl, rfl, ?_⟩
      refine ⟨_, rfl, _, _, rfl, rfl, _, rfl, ite2 (fun c => ?_) (fun c => ?_)⟩
      · have c' : 0 < u.2 := of_decide_eq_true c
        have e1 : u.2 = ((u.2.natAbs : Nat) : Int) := by omega
        refine ⟨_, rfl, _, rfl, _, rfl, u.1, u.2.natAbs, n, by show [V.int u.1, V.int u.2] = _; rw [← e1], pb, by omega, e39, ?_⟩
        refine ⟨_, _, rfl, rfl, wide_mul ub pw (by omega) (by omega) (by omega), some (.int u.1), some (.int u.2), ?_, rfl⟩
        rw [tk, up_snoc, dn_snoc, if_pos c', if_pos c', Int.mul_one, Nat.one_mul]
        rfl
      · have c' : ¬ 0 < u.2 := fun z => c (decide_eq_true z)
        have e1 : -u.2 = ((u.2.natAbs : Nat) : Int) := by omega
        refine ⟨_, rfl, _, rfl, _, rfl, _, rfl, u.1, u.2.natAbs, n, by show [V.int u.1, V.int (-u.2)] = _; rw [← e1], pb, by omega, e39, ?_⟩
        refine ⟨_, _, rfl, rfl, wide_mul db pw (by omega) (by omega) (by omega), some (.int u.1), some (.int u.2), ?_, rfl⟩
        rw [tk, up_snoc, dn_snoc, if_neg c', if_neg c', Int.mul_one, Nat.one_mul]
        rfl
    · rintro σ H' ⟨y3, y4, rfl, rfl⟩
      rw [List.length_map, rl, List.take_of_length_le (Nat.le_refl _)]
      refine ⟨_, rfl, _, rfl, by show 2 ≤ sizeLine; rw [sizeLine_eq]; omega, fun t nt => q t _ (u0.trans (same_new nt)) sqT_new⟩
end
end K02

namespace K02
open PySem PySem.Spec PyProof.Rows L2 Ly Am
theorem vi_mul {p : Nat} (hp : Pr p) {a b : Int} (ha : 0 < a) (hb : 0 < b) : vi p (a * b) = vi p a + vi p b := by
  obtain ⟨x, rfl⟩ := Int.eq_ofNat_of_zero_le (Int.le_of_lt ha)
  obtain ⟨y, rfl⟩ := Int.eq_ofNat_of_zero_le (Int.le_of_lt hb)
  unfold vi
  rw [← Int.natCast_mul, Int.toNat_natCast, Int.toNat_natCast, Int.toNat_natCast, Int.toNat_natCast, vp_mul hp _ _ (by omega) (by omega)]
  exact Int.natCast_add _ _
theorem vi_one {p : Nat} (hp : Pr p) : vi p 1 = 0 := by
  unfold vi; rw [Int.toNat_natCast]; show ((vp p 1 : Nat) : Int) = 0; rw [vp_one hp.two]; rfl
theorem vi_pow {p : Nat} (hp : Pr p) {a : Int} (ha : 0 < a) : ∀ k : Nat, vi p (a ^ k) = k * vi p a
  | 0 => by rw [Int.pow_zero, vi_one hp]; simp
  | k + 1 => by rw [Int.pow_succ, vi_mul hp (ipp k ha) ha, vi_pow hp ha k, Int.natCast_add, Int.add_mul]; simp
theorem vi_updn {p : Nat} (hp : Pr p) {L : List (Int × Int)} (h : ∀ q ∈ L, 0 < q.1) : vi p (up 1 L) = vi p (dn 1 L) + (L.map fun q => q.2 * vi p q.1).sum := by
  induction L with
  | nil => show vi p 1 = vi p 1 + 0; rw [Int.add_zero]
  | cons q r ih =>
    have hr : ∀ z ∈ r, 0 < z.1 := fun z hz => h z (List.mem_cons_of_mem _ hz)
    have q0 := h q List.mem_cons_self
    have i := ih hr
    obtain ⟨u0, d0⟩ := upk_pos (k := 1) hr
    rw [List.map_cons, List.sum_cons]
    show vi p ((if 0 < q.2 then q.1 ^ (1 * q.2.natAbs) else 1) * up 1 r) = vi p ((if 0 < q.2 then 1 else q.1 ^ (1 * q.2.natAbs)) * dn 1 r) + _
    by_cases c : 0 < q.2
    · rw [if_pos c, if_pos c, Int.one_mul, vi_mul hp (ipp _ q0) u0, vi_pow hp q0, i]
      have : ((1 * q.2.natAbs : Nat) : Int) = q.2 := by omega
      rw [this]; omega
    · rw [if_neg c, if_neg c, Int.one_mul, vi_mul hp (ipp _ q0) d0, vi_pow hp q0, i]
      have : ((1 * q.2.natAbs : Nat) : Int) = -q.2 := by omega
      rw [this, Int.neg_mul]; omega
theorem ig_sum {p : Nat} (hp : Pr p) : ∀ {L : List (Int × Int)}, (L.map (·.1)).Nodup → (∀ q ∈ L, ∃ n : Nat, q.1 = n ∧ Pr n ∧ n < 1000000) → (L.map fun q => q.2 * vi p q.1).sum = ig L p
  | [], _, _ => rfl
  | q :: r, nd, pr => by
    obtain ⟨n, e, pn, _⟩ := pr q List.mem_cons_self
    have nd2 := (List.nodup_cons.mp nd)
    have i := ig_sum hp (L := r) nd2.2 fun z hz => pr z (List.mem_cons_of_mem _ hz)
    rw [List.map_cons, List.sum_cons, i, ig_cons]
    have ev : vi p q.1 = if p = n then 1 else 0 := by
      unfold vi
      rw [e, Int.toNat_natCast, Int.toNat_natCast]
      by_cases c : p = n
      · rw [if_pos c, ← c, vp_self hp]; rfl
      · rw [if_neg c, vp_other hp pn c]; rfl
    rw [ev]
    by_cases c : p = n
    · have z : ig r p = 0 := ig_none fun x hx z => nd2.1 (List.mem_map.mpr ⟨x, hx, by show x.1 = q.1; rw [e, ← c]; exact z⟩)
      rw [if_pos c, if_pos (by rw [e, c]), z]; omega
    · rw [if_neg c, if_neg (by rw [e]; omega)]; omega
theorem eq_of_vi {a b : Int} (ha : 0 < a) (hb : 0 < b) (h : ∀ p : Nat, Pr p → vi p a = vi p b) : a = b := by
  have := eq_of_vp a.toNat b.toNat (by omega) (by omega) fun p hp => by
    have z := h p hp
    unfold vi at z
    rw [Int.toNat_natCast] at z
    exact_mod_cast z
  omega
/-- the two sides of what an amount stands for -/
theorem sides_eq {L : List (Int × Int)} {d many T B : Int} {f : Int → Int} (st : St4 d L many f) (hm : 0 < many) (hT : 0 < T) (hB : 0 < B) (h : ∀ p : Nat, Pr p → vi p T = vi p B + f p) :
    up 1 L ^ (many / d).toNat * B = T * dn 1 L ^ (many / d).toNat := by
  have hL : ∀ q ∈ L, 0 < q.1 := fun q hq => by
    obtain ⟨n, e, pn, _⟩ := st.1.pr q hq
    have := pn.pos; omega
  obtain ⟨u0, d0⟩ := upk_pos (k := 1) hL
  have d1 := st.1.d1
  obtain ⟨x, hx⟩ := st.dvd hm
  have ex : many / d = x := by rw [hx]; exact Int.mul_ediv_cancel_left _ (by omega)
  have x0 : 0 < x := by
    apply Int.pos_of_mul_pos_right (a := d) <;> omega
  refine eq_of_vi (Int.mul_pos (ipp _ u0) hB) (Int.mul_pos hT (ipp _ d0)) fun p hp => ?_
  rw [vi_mul hp (ipp _ u0) hB, vi_mul hp hT (ipp _ d0), vi_pow hp u0, vi_pow hp d0, h p hp, vi_updn hp hL, ig_sum hp (asc_nodup st.1.asc) st.1.pr, ex, show ((x.toNat : Nat) : Int) = x by omega]
  have e := st.2 p
  rw [hx] at e
  have e2 : x * ig L p = f p := by
    refine Int.eq_of_mul_eq_mul_right (a := d) (by omega) ?_
    rw [← e, Int.mul_comm d x, ← Int.mul_assoc, Int.mul_comm x]
  rw [Int.mul_add, e2]; omega
end K02

namespace K02
open PySem PySem.Spec PyProof.Rows L2 Ly Am
section
variable {P : Program} {w : World} {K : PySem.W.Frag} {mg : Str → Option Value} {base : Heap}
/-- v is the amount of the logarithm of T / B, divided by many: n1, n2 bound the bits of what is worked out -/
def spStand (K : PySem.W.Frag) : Sp := fun vs H Q _ => ∃ (v : V) (many T B : Int) (f : Int → Int) (n n1 n2 : Nat), vs = [v, .int many, .int T, .int B] ∧ Val K H v many f ∧ AmL many f ∧ many < 2 ^ 38 ∧ 0 < T ∧ 0 < B ∧ (∀ p : Nat, Pr p → vi p T = vi p B + f p) ∧
  (∀ d L, St4 d L many f → Fits n 1 L ∧ (up 1 L).natAbs < 2 ^ n1 ∧ (dn 1 L).natAbs < 2 ^ n1 ∧ n1 * (2 * (many / d).toNat) ≤ 400000) ∧ T.natAbs < 2 ^ n2 ∧ B.natAbs < 2 ^ n2 ∧ n2 ≤ 400000 ∧ ∀ H', Same H H' → Q (.bl true) H'
where AmL (many : Int) (f : Int → Int) : Prop := Bd many f
theorem ca_L_stands (T : Tx K mg) : Ca P w K mg base 3 "_law_stands" s_L_stands ["_law_amount", "_law_many", "_law_top", "_law_bottom"] (spStand K) := by
  have C_L_is_own_amount := ca_L_is_own_amount (P := P) (w := w) (base := base) T
  have C_L_gcd := ca_L_gcd (P := P) (w := w) (base := base) T
  have C_L_sides := ca_L_sides (P := P) (w := w) (base := base) T
  have C_L_power := ca_L_power (P := P) (w := w) (base := base) T
  refine Ca.of (fd_L_stands T) sc_L_stands ?_ ?_
  · rintro vs H Q E ⟨v, many, T, B, f, n, n1, n2, rfl, _⟩; rfl
  · rintro f cdv A out s H vs Q E hr ⟨v, many, T, B, g, n, n1, n2, rfl, ⟨d, L, am, st⟩, bd, m38, T0, B0, hv, fit, t2, b2, n2l, q⟩
    refine ⟨_, (pss_cons (ps_if (pt_not (pt_val (pe_ca C_L_is_own_amount hr (pa_cons (pv 0) pa_nil))))
 (pss_one (ps_ret pe_bl))
 pss_nil)
 (pss_cons (ps_asg (pe_tup (pa_cons (pe_ca C_L_gcd hr (pa_cons (pv 1) (pa_cons (pe_ix ix_tup (pv 0) pe_int (fun _ _ => rfl)) pa_nil))) (pa_cons (pe_ca C_L_sides hr (pa_cons (pv 0) pa_nil)) pa_nil))) (pg_tup rfl (pgs_cons (pg_name (i := 4) sc_L_stands.nd rfl (.inl rfl)) (pgs_cons (pg_tup rfl (pgs_cons (pg_name (i := 5) sc_L_stands.nd rfl (.inl rfl)) (pgs_cons (pg_name (i := 6) sc_L_stands.nd rfl (.inl rfl)) pgs_nil))) pgs_nil))))
 (pss_cons (ps_par (i := 7) (j := 8) rfl sc_L_stands.nd rfl rfl (by decide) rfl rfl (pa_cons (pe_op op_fdivW (pv 1) (pv 4)) (pa_cons (pe_op op_fdivW (pe_ix ix_tup (pv 0) pe_int (fun _ _ => rfl)) (pv 4)) pa_nil)) rfl)
 (pss_one (ps_ret (pe_cmpR op_eq (pe_op op_mulW (pe_ca C_L_power hr (pa_cons (pv 5) (pa_cons (pv 7) pa_nil))) (pe_ca C_L_power hr (pa_cons (pv 3) (pa_cons (pv 8) pa_nil)))) (pe_op op_mulW (pe_ca C_L_power hr (pa_cons (pv 2) (pa_cons (pv 8) pa_nil))) (pe_ca C_L_power hr (pa_cons (pv 6) (pa_cons (pv 7) pa_nil)))) (nomark _))))))), ?_⟩
    have bd' : Bd many g := bd
    have m0 := bd'.pos
    have ok := bd'.ok st
    obtain ⟨ft, ub, db, nl⟩ := fit d L st
    have d1 := st.1.d1
    have dl := ok.dl
    refine ⟨_, rfl, v, d, L, rfl, am, ok, fun H1 s1 => ⟨true, rfl, iteF ?_⟩⟩
    obtain ⟨a, b, rs, rfl, h1, h2, h3⟩ := am.same s1
    refine ⟨_, rfl, _, rfl, a, _, 0, _, rfl, rfl, h1, atI_nat (j := 0) rfl, _, _, rfl, by omega, ?_⟩
    have eg : ((Nat.gcd many.natAbs d.natAbs : Nat) : Int) = d := by
      have : Nat.gcd many.natAbs d.natAbs = d.natAbs := Nat.gcd_eq_right (Int.natAbs_dvd_natAbs.mpr (st.dvd m0))
      rw [this]; omega
    rw [eg]
    refine ⟨_, rfl, .ref a, d, L, n, rfl, am.same s1, ft, fun t H2 s2 ht => ?_⟩
    have z2 : 2 ≤ sizeLine := by rw [sizeLine_eq]; omega
    refine ⟨z2, fun t9 nt9 => ?_⟩
    have s3 := same_new (o := .tup [V.int d, V.ref t]) nt9
    refine ⟨t9, _, rfl, sqT_new, rfl, _, _, rfl, _, [], rfl, t, _, rfl, SqT.same s3 ht, rfl, _, _, rfl, _, [], rfl, rfl, rfl, ?_⟩
    generalize upd H2 t9 (.tup [V.int d, V.ref t]) = H3 at *
    have dlog : d.natAbs.log2 < 9000 := by
      have : d.natAbs.log2 < 65 := (Nat.log2_lt (by omega)).mpr (by omega)
      omega
    have dd : d / d = 1 := Int.ediv_self (by omega)
    refine ⟨_, rfl, _, rfl, _, _, rfl, rfl, ⟨d1, dlog⟩, _, rfl, a, _, 0, _, rfl, rfl, SqT.same (s2.trans s3) h1, atI_nat (j := 0) rfl, _, rfl, _, _, rfl, rfl, ⟨d1, dlog⟩, _, _, rfl, ?_⟩
    dsimp only
    rw [dd]
    have nr0 : 0 ≤ many / d := Int.ediv_nonneg (by omega) (by omega)
    have nr1 : many / d ≤ many := Int.ediv_le_self _ (by omega)
    obtain ⟨x, ex⟩ : ∃ x : Nat, many / d = x := ⟨(many / d).toNat, by omega⟩
    have se := sides_eq st m0 T0 B0 hv
    rw [ex, Int.toNat_natCast] at se
    rw [ex]
    rw [ex, Int.toNat_natCast] at nl
    have nl2 : n1 * (2 * x) = 2 * (n1 * x) := Nat.mul_left_comm ..
    have bu := pow_bits ub x
    have bdn := pow_bits db x
    have bB := pow_bits b2 1
    have bT := pow_bits t2 1
    rw [Nat.mul_one] at bB bT
    refine ⟨_, rfl, _, rfl, up 1 L, x, n1, rfl, ub, by omega, by omega, ?_⟩
    refine ⟨_, rfl, _, rfl, B, 1, n2, rfl, b2, by omega, by omega, ?_⟩
    refine ⟨_, _, rfl, rfl, wide_mul bu bB (by omega) (by omega) (by omega), ?_⟩
    refine ⟨_, rfl, _, rfl, T, 1, n2, rfl, t2, by omega, by omega, ?_⟩
    refine ⟨_, rfl, _, rfl, dn 1 L, x, n1, rfl, db, by omega, by omega, ?_⟩
    refine ⟨_, _, rfl, rfl, wide_mul bT bdn (by omega) (by omega) (by omega), rfl, ?_⟩
    have e : decide (V.int (up 1 L ^ x * B ^ 1) = V.int (T ^ 1 * dn 1 L ^ x)) = true := by
      apply decide_eq_true
      congr 1
      rw [Int.pow_succ, Int.pow_zero, Int.one_mul, Int.pow_succ, Int.pow_zero, Int.one_mul]
      exact se
    have z := q H3 ((s1.trans s2).trans s3)
    rw [← e] at z
    exact z
end
end K02

namespace K02
open PySem PySem.Spec PyProof.Rows L2 Ly Am
section
variable {P : Program} {w : World} {K : PySem.W.Frag} {mg : Str → Option Value} {base : Heap}
def spPick (K : PySem.W.Frag) : Sp := fun vs H Q _ => ∃ (D C a : Addr) (n : Nat) (xs : List V), vs = [.ref D, .ref a] ∧ DeckAt H D C n ∧ n < 2 ^ 29 ∧ SqT K H a xs ∧ 0 < xs.length ∧ xs.length ≤ 1000 ∧
  ∀ (i : Nat) (x : V) H', xs[i]? = some x → Ot D C H H' → DeckAt H' D C (n + 1) → Q x H'
theorem ca_L_pick (T : Tx K mg) : Ca P w K mg base 2 "_law_pick" s_L_pick ["_law_deck_here", "_law_some"] (spPick K) := by
  have C_L_draw := ca_L_draw (P := P) (w := w) (base := base) T
  refine Ca.of (fd_L_pick T) sc_L_pick ?_ ?_
  · rintro vs H Q E ⟨D, C, a, n, xs, rfl, _⟩; rfl
  · rintro f cdv A out s H vs Q E hr ⟨D, C, a, n, xs, rfl, da, hn, hT, l0, l1, q⟩
    refine ⟨_, (pss_one (ps_ret (pe_ix ix_tup (pv 1) (pe_ca C_L_draw hr (pa_cons (pv 0) (pa_cons (pe_callB call_len_seq (by rfl) T.f_len (by decide +kernel) (pa_cons (pv 1) pa_nil)) pa_nil))) (fun _ _ => rfl)))), ?_⟩
    refine ⟨_, rfl, _, rfl, _, rfl, a, xs, rfl, .inr hT, D, C, n, xs.length, rfl, da, by omega, by omega, by omega, fun r H' r0 r1 o da' => ?_⟩
    obtain ⟨i, rfl⟩ : ∃ i : Nat, r = i := ⟨r.toNat, by omega⟩
    have hi : i < xs.length := by omega
    have hx : xs[i]? = some xs[i] := List.getElem?_eq_getElem hi
    exact ⟨a, _, (i : Int), _, rfl, rfl, SqT.kp (o.kp da) hT, atI_nat hx, q i _ H' hx o da'⟩
def spWhole (K : PySem.W.Frag) : Sp := fun vs H Q _ => ∃ (a : Addr) (ns : List Int), vs = [.ref a] ∧ SqL K H a (ns.map V.int) ∧ (∀ n ∈ ns, 0 < n ∧ n ≤ 60) ∧ ns.length ≤ 40 ∧ ∀ H', Same H H' → Q (.int (ee ns)) H'
theorem ee_snoc (ns : List Int) (n : Int) : ee (ns ++ [n]) = ee ns * n ^ n.toNat := by
  rw [ee_append, ee_cons]; show _ * (_ * 1) = _; rw [Int.mul_one]
theorem ca_L_whole (T : Tx K mg) : Ca P w K mg base 2 "_law_whole" s_L_whole ["_law_counts"] (spWhole K) := by
  have C_L_power := ca_L_power (P := P) (w := w) (base := base) T
  refine Ca.of (fd_L_whole T) sc_L_whole ?_ ?_
  · rintro vs H Q E ⟨a, ns, rfl, _⟩; rfl
  · rintro f cdv A out s H vs Q E hr ⟨a, ns, rfl, hS, hn, hl, q⟩
    refine ⟨_, (pss_cons (ps_set (i := 1) sc_L_whole.nd rfl (.inl rfl) pe_int)
 (pss_cons (ps_for PassesOwn.never rfl (pi_list (pv 0)) (pg_name (i := 2) sc_L_whole.nd rfl (.inl rfl))
 (pss_one (ps_set (i := 1) sc_L_whole.nd rfl (.inl rfl) (pe_op op_mulW (pv 1) (pe_ca C_L_power hr (pa_cons (pv 2) (pa_cons (pv 2) pa_nil)))))))
 (pss_one (ps_ret (pv 1))))), ?_⟩
    refine ⟨_, rfl, a, rfl, ⟨_, hS⟩, ?_⟩
    refine for_list (xs := ns.map V.int) (fun i σ H' => ∃ y, σ = [some (.ref a), some (.int (ee (ns.take i))), y] ∧ (ee (ns.take i)).natAbs < 2 ^ (400 * i + 1) ∧ H = H') ⟨none, rfl, by show (1 : Int).natAbs < 2 ^ 1; decide, rfl⟩ ?_ ?_ ?_
    · rintro i σ H' _ ⟨_, _, _, rfl⟩; exact hS
    · rintro i x σ H' hx ⟨y, rfl, hb, rfl⟩
      obtain ⟨n, hn1, rfl⟩ := map_at hx
      have nm := List.mem_of_getElem? hn1
      obtain ⟨n0, n6⟩ := hn n nm
      have il := (List.getElem?_eq_some_iff.mp hn1).1
      have en : ((n.toNat : Nat) : Int) = n := by omega
      have nb : n.natAbs < 2 ^ 6 := by omega
      have pw := pow_bits nb n.toNat
      refine ⟨_, rfl, _, rfl, _, rfl, n, n.toNat, 6, by show [V.int n, V.int n] = _; rw [en], nb, by omega, by omega, ?_⟩
      refine ⟨_, _, rfl, rfl, wide_mul hb pw (by omega) (by omega) (by omega), some (.int n), ?_, ?_, rfl⟩
      · rw [show ns.take (i + 1) = ns.take i ++ [n] by rw [List.take_add_one, hn1]; rfl, ee_snoc]; rfl
      · rw [show ns.take (i + 1) = ns.take i ++ [n] by rw [List.take_add_one, hn1]; rfl, ee_snoc]
        have := wide_lt hb pw
        refine Nat.lt_of_lt_of_le this (Nat.pow_le_pow_right (by omega) ?_)
        omega
    · rintro σ H' ⟨y, rfl, _, rfl⟩
      rw [List.length_map, List.take_of_length_le (Nat.le_refl _)]
      exact ⟨_, rfl, q H (Same.refl H)⟩
end
end K02

namespace K02
open PySem PySem.Spec PyProof.Rows L2 Ly Am
/-- what a drawn amount is told to stand for: the logarithm of T / B, divided by m -/
structure Kn (m T B : Int) (f : Int → Int) : Prop where
  m0 : 0 < m
  ml : m ≤ 200
  T0 : 0 < T
  B0 : 0 < B
  vi : ∀ p : Nat, Pr p → vi p T = vi p B + f p
  Tb : T.natAbs < 2 ^ 600
  Bb : B.natAbs < 2 ^ 600
theorem cut_tail (x : V) (xs : List V) : cutV (x :: xs) (some 1) none = xs := by
  unfold cutV
  have e1 : HT.sIx (x :: xs).length 0 (some 1) = 1 := by
    have := HT.sIx_nat (x :: xs).length 0 1
    rw [show ((1 : Nat) : Int) = 1 from rfl] at this
    rw [this, List.length_cons]; omega
  have e2 : HT.sIx (x :: xs).length (x :: xs).length none = (x :: xs).length := rfl
  rw [e1, e2, List.drop_one, List.tail_cons, List.take_of_length_le (by rw [List.length_cons]; omega)]
def ordI (l r : Int) : Int := (if r < l then 1 else 0) - (if l < r then 1 else 0)
section
variable {P : Program} {w : World} {K : PySem.W.Frag} {mg : Str → Option Value} {base : Heap}
def spOrder (K : PySem.W.Frag) : Sp := fun vs H Q _ => ∃ (a b : Addr) (v1 v2 : V) (m1 T1 B1 m2 T2 B2 : Int) (f1 f2 : Int → Int), vs = [.ref a, .ref b] ∧ SqT K H a [v1, .int m1, .int T1, .int B1] ∧ SqT K H b [v2, .int m2, .int T2, .int B2] ∧
  Kn m1 T1 B1 f1 ∧ Kn m2 T2 B2 f2 ∧ ∀ H', Same H H' → Q (.int (ordI (T1 ^ m2.toNat * B2 ^ m1.toNat) (T2 ^ m1.toNat * B1 ^ m2.toNat))) H'
theorem ca_L_order (T : Tx K mg) : Ca P w K mg base 2 "_law_order" s_L_order ["_law_one", "_law_other"] (spOrder K) := by
  have C_L_power := ca_L_power (P := P) (w := w) (base := base) T
  refine Ca.of (fd_L_order T) sc_L_order ?_ ?_
  · rintro vs H Q E ⟨a, b, v1, v2, m1, T1, B1, m2, T2, B2, f1, f2, rfl, _⟩; rfl
  · rintro f cdv A out s H vs Q E hr ⟨a, b, v1, v2, m1, T1, B1, m2, T2, B2, f1, f2, rfl, ha, hb, k1, k2, q⟩
    refine ⟨_, (pss_cons (ps_par (i := 2) (j := 3) rfl sc_L_order.nd rfl rfl (by decide) rfl rfl (pa_cons (pe_slice sl_tupA (pv 0) (po_some pe_int) po_none) (pa_cons (pe_slice sl_tupA (pv 1) (po_some pe_int) po_none) pa_nil)) rfl)
 (pss_cons (ps_set (i := 4) sc_L_order.nd rfl (.inl rfl) (pe_op op_mulW (pe_ca C_L_power hr (pa_cons (pe_ix ix_tup (pv 2) pe_int (fun _ _ => rfl)) (pa_cons (pe_ix ix_tup (pv 3) pe_int (fun _ _ => rfl)) pa_nil))) (pe_ca C_L_power hr (pa_cons (pe_ix ix_tup (pv 3) pe_int (fun _ _ => rfl)) (pa_cons (pe_ix ix_tup (pv 2) pe_int (fun _ _ => rfl)) pa_nil)))))
 (pss_cons (ps_set (i := 5) sc_L_order.nd rfl (.inl rfl) (pe_op op_mulW (pe_ca C_L_power hr (pa_cons (pe_ix ix_tup (pv 3) pe_int (fun _ _ => rfl)) (pa_cons (pe_ix ix_tup (pv 2) pe_int (fun _ _ => rfl)) pa_nil))) (pe_ca C_L_power hr (pa_cons (pe_ix ix_tup (pv 2) pe_int (fun _ _ => rfl)) (pa_cons (pe_ix ix_tup (pv 3) pe_int (fun _ _ => rfl)) pa_nil)))))
 (pss_one (ps_ret (pe_op op_sub (pe_callTy call_int1 (by rfl) T.f_int (by decide +kernel) (pa_cons (pe_cmpR op_gt (pv 4) (pv 5) (nomark _)) pa_nil)) (pe_callTy call_int1 (by rfl) T.f_int (by decide +kernel) (pa_cons (pe_cmpR op_lt (pv 4) (pv 5) (nomark _)) pa_nil)))))))), ?_⟩
    have no : ∀ (x : V) (y z u : V), ¬ (HT.sIx [x, y, z, u].length 0 (some 1) = 0 ∧ HT.sIx [x, y, z, u].length [x, y, z, u].length none = [x, y, z, u].length) := fun x y z u => by
      have := HT.sIx_nat [x, y, z, u].length 0 1
      rw [show ((1 : Nat) : Int) = 1 from rfl] at this
      rw [this]; simp
    refine ⟨_, rfl, 1, rfl, a, _, rfl, ha, fun hw => absurd hw (no _ _ _ _), fun _ p1 np1 => ?_⟩
    rw [cut_tail]
    have s1 := same_new (o := .tup [V.int m1, V.int T1, V.int B1]) np1
    have hp1 : SqT K (upd H p1 (.tup [V.int m1, V.int T1, V.int B1])) p1 [V.int m1, V.int T1, V.int B1] := sqT_new
    generalize upd H p1 (.tup [V.int m1, V.int T1, V.int B1]) = H1 at *
    refine ⟨_, rfl, 1, rfl, b, _, rfl, SqT.same s1 hb, fun hw => absurd hw (no _ _ _ _), fun _ p2 np2 => ?_⟩
    rw [cut_tail]
    have s2 := same_new (o := .tup [V.int m2, V.int T2, V.int B2]) np2
    have hp2 : SqT K (upd H1 p2 (.tup [V.int m2, V.int T2, V.int B2])) p2 [V.int m2, V.int T2, V.int B2] := sqT_new
    have hp1' := SqT.same s2 hp1
    generalize upd H1 p2 (.tup [V.int m2, V.int T2, V.int B2]) = H2 at *
    have e1 : ((m1.toNat : Nat) : Int) = m1 := by have := k1.m0; omega
    have e2 : ((m2.toNat : Nat) : Int) = m2 := by have := k2.m0; omega
    have l1 := k1.ml
    have l2 := k2.ml
    have w1 := pow_bits k1.Tb m2.toNat
    have w2 := pow_bits k2.Bb m1.toNat
    have w3 := pow_bits k2.Tb m1.toNat
    have w4 := pow_bits k1.Bb m2.toNat
    refine ⟨_, _, rfl, ?_⟩
    refine ⟨_, rfl, p1, _, 1, _, rfl, rfl, hp1', atI_nat (j := 1) rfl, _, rfl, p2, _, 0, _, rfl, rfl, hp2, atI_nat (j := 0) rfl, T1, m2.toNat, 600, by show [V.int T1, V.int m2] = _; rw [e2], k1.Tb, by omega, by omega, ?_⟩
    refine ⟨_, rfl, p2, _, 2, _, rfl, rfl, hp2, atI_nat (j := 2) rfl, _, rfl, p1, _, 0, _, rfl, rfl, hp1', atI_nat (j := 0) rfl, B2, m1.toNat, 600, by show [V.int B2, V.int m1] = _; rw [e1], k2.Bb, by omega, by omega, ?_⟩
    refine ⟨_, _, rfl, rfl, wide_mul w1 w2 (by omega) (by omega) (by omega), ?_⟩
    refine ⟨_, rfl, p2, _, 1, _, rfl, rfl, hp2, atI_nat (j := 1) rfl, _, rfl, p1, _, 0, _, rfl, rfl, hp1', atI_nat (j := 0) rfl, T2, m1.toNat, 600, by show [V.int T2, V.int m1] = _; rw [e1], k2.Tb, by omega, by omega, ?_⟩
    refine ⟨_, rfl, p1, _, 2, _, rfl, rfl, hp1', atI_nat (j := 2) rfl, _, rfl, p2, _, 0, _, rfl, rfl, hp2, atI_nat (j := 0) rfl, B1, m2.toNat, 600, by show [V.int B1, V.int m2] = _; rw [e2], k1.Bb, by omega, by omega, ?_⟩
    refine ⟨_, _, rfl, rfl, wide_mul w3 w4 (by omega) (by omega) (by omega), ?_⟩
    refine ⟨_, rfl, _, rfl, _, _, rfl, rfl, .inr ⟨_, rfl, ?_⟩⟩
    refine ⟨_, rfl, _, rfl, _, _, rfl, rfl, .inr ⟨_, rfl, _, _, rfl, rfl, ?_⟩⟩
    have z := q H2 (s1.trans s2)
    have e : ordI (T1 ^ m2.toNat * B2 ^ m1.toNat) (T2 ^ m1.toNat * B1 ^ m2.toNat) = (if decide (T2 ^ m1.toNat * B1 ^ m2.toNat < T1 ^ m2.toNat * B2 ^ m1.toNat) = true then (1 : Int) else 0) - (if decide (T1 ^ m2.toNat * B2 ^ m1.toNat < T2 ^ m1.toNat * B1 ^ m2.toNat) = true then (1 : Int) else 0) := by
      unfold ordI
      simp only [decide_eq_true_eq]
    rw [e] at z
    exact z
end
end K02

namespace K02
open PySem PySem.Spec PyProof.Rows L2 Ly Am
theorem cost_lg {L M : List (Int × Int)} {d B : Int} (st : St4 d L B (lg M)) (hB : 0 < B) (hM : ∀ q ∈ M, 0 < q.2) : cost L ≤ wgt M := by
  have pr : ∀ p ∈ L.map (fun q => q.1.toNat), Pr p := fun p hp => by
    obtain ⟨q, hq, rfl⟩ := List.mem_map.mp hp
    obtain ⟨n, e, pn, _⟩ := st.1.pr q hq
    rw [e, Int.toNat_natCast]; exact pn
  have nd : (L.map fun q => q.1.toNat).Nodup := by
    rw [List.Nodup, List.pairwise_map]
    refine st.1.asc.imp_of_mem ?_
    intro a b ha hb hab z
    obtain ⟨n, e, _⟩ := st.1.pr a ha
    obtain ⟨m, e2, _⟩ := st.1.pr b hb
    rw [e, e2] at hab
    rw [e, e2, Int.toNat_natCast, Int.toNat_natCast] at z
    omega
  have h := sum_lg nd pr hM
  refine Nat.le_trans ?_ h
  rw [List.map_map]
  have ndL := asc_nodup st.1.asc
  have key : ∀ l : List (Int × Int), (∀ q ∈ l, q ∈ L) → cost l ≤ (l.map ((fun p : Nat => (lg M (p : Int)).natAbs) ∘ fun q => q.1.toNat)).sum := by
    intro l
    induction l with
    | nil => intro _; exact Nat.zero_le _
    | cons q r ih =>
      intro hl
      have i := ih fun z hz => hl z (List.mem_cons_of_mem _ hz)
      have hq := hl q List.mem_cons_self
      obtain ⟨n, e, _⟩ := st.1.pr q hq
      have h1 := st.abs hB q.1
      rw [ig_mem ndL hq] at h1
      have e3 : ((q.1.toNat : Nat) : Int) = q.1 := by omega
      unfold cost at *
      rw [List.map_cons, List.sum_cons, List.map_cons, List.sum_cons]
      show q.2.natAbs + _ ≤ (lg M ((q.1.toNat : Nat) : Int)).natAbs + _
      rw [e3]; omega
  exact key L fun _ h => h
theorem len_cost : ∀ {L : List (Int × Int)}, (∀ q ∈ L, q.2 ≠ 0) → L.length ≤ cost L
  | [], _ => Nat.zero_le _
  | q :: r, h => by
    have i := len_cost (L := r) fun z hz => h z (List.mem_cons_of_mem _ hz)
    have q0 := h q List.mem_cons_self
    unfold cost at *
    rw [List.length_cons, List.map_cons, List.sum_cons]; omega
/-- the products can be worked out as far as the sum of the logarithms' bits goes -/
theorem fitsW {L M : List (Int × Int)} {d B : Int} {n : Nat} (st : St4 d L B (lg M)) (hB : 0 < B) (hn : 0 < n) (hM : ∀ q ∈ M, 0 < q.2 ∧ q.2 < 2 ^ n) (hw : n * (2 * wgt M) ≤ 400000) : Fits n 1 L := by
  have hc := cost_lg st hB fun q hq => (hM q hq).1
  have hl := len_cost st.1.nz
  have e1 : n * (2 * wgt M) = 2 * (n * wgt M) := Nat.mul_left_comm ..
  have e2 : wgt M ≤ n * wgt M := Nat.le_mul_of_pos_left _ hn
  refine ⟨fun q hq => ?_, fun q hq => ?_, ?_, by decide, fun q hq => ?_⟩
  · have k := lg_key (m := 2 ^ n - 1) (st.zero hB hq) fun z hz => ⟨(hM z hz).1, by have := (hM z hz).2; omega⟩
    exact ⟨by omega, by omega⟩
  · have := cost_mem hq
    have h2 : n * (2 * (1 * q.2.natAbs)) ≤ n * (2 * wgt M) := Nat.mul_le_mul_left _ (by omega)
    omega
  · have h2 : n * (1 * cost L) ≤ n * wgt M := Nat.mul_le_mul_left _ (by omega)
    omega
  · have := cost_mem hq
    omega
end K02

namespace K02
open PySem PySem.Spec PyProof.Rows L2 Ly Am
def scl (c : Int) (M : List (Int × Int)) : List (Int × Int) := M.map fun q => (c * q.1, q.2)
theorem lg_scl (c : Int) (M : List (Int × Int)) (p : Int) : lg (scl c M) p = c * lg M p := by
  by_cases h : ∃ n : Nat, p = n ∧ Pr n
  · obtain ⟨n, rfl, pr⟩ := h
    rw [lg_pr _ pr, lg_pr _ pr]
    unfold scl
    rw [List.map_map]
    induction M with
    | nil => simp
    | cons x r ih =>
      rw [List.map_cons, List.sum_cons, ih, List.map_cons, List.sum_cons, Int.mul_add]
      show c * x.1 * vi n x.2 + _ = _
      rw [Int.mul_assoc]
  · rw [lg_no _ h, lg_no _ h, Int.mul_zero]
theorem wgt_scl (c : Int) (M : List (Int × Int)) : wgt (scl c M) = c.natAbs * wgt M := by
  unfold wgt scl
  rw [List.map_map]
  induction M with
  | nil => simp
  | cons x r ih =>
    rw [List.map_cons, List.sum_cons, ih, List.map_cons, List.sum_cons, Nat.mul_add]
    show (c * x.1).natAbs * x.2.toNat.log2 + _ = _
    rw [Int.natAbs_mul, Nat.mul_assoc]
theorem wgt_app (A B : List (Int × Int)) : wgt (A ++ B) = wgt A + wgt B := by unfold wgt; rw [List.map_append, List.sum_append]
theorem cost_near {L M : List (Int × Int)} {d B : Int} (st : St4 d L B (lg M)) (hB : 0 < B) (hM : ∀ q ∈ M, 0 < q.2) : cost L * (B / d).toNat ≤ wgt M := by
  -- the exponents times B / d are those of the sum
  have d1 := st.1.d1
  obtain ⟨x, hx⟩ := st.dvd hB
  have ex : B / d = x := by rw [hx]; exact Int.mul_ediv_cancel_left _ (by omega)
  have x0 : 0 < x := by
    apply Int.pos_of_mul_pos_right (a := d) <;> omega
  have pr : ∀ p ∈ L.map (fun q => q.1.toNat), Pr p := fun p hp => by
    obtain ⟨q, hq, rfl⟩ := List.mem_map.mp hp
    obtain ⟨n, e, pn, _⟩ := st.1.pr q hq
    rw [e, Int.toNat_natCast]; exact pn
  have nd : (L.map fun q => q.1.toNat).Nodup := by
    rw [List.Nodup, List.pairwise_map]
    refine st.1.asc.imp_of_mem ?_
    intro a b ha hb hab z
    obtain ⟨n, e, _⟩ := st.1.pr a ha
    obtain ⟨m, e2, _⟩ := st.1.pr b hb
    rw [e, e2] at hab
    rw [e, e2, Int.toNat_natCast, Int.toNat_natCast] at z
    omega
  refine Nat.le_trans ?_ (sum_lg nd pr hM)
  rw [List.map_map, ex]
  have ndL := asc_nodup st.1.asc
  have key : ∀ l : List (Int × Int), (∀ q ∈ l, q ∈ L) → cost l * x.toNat ≤ (l.map ((fun p : Nat => (lg M (p : Int)).natAbs) ∘ fun q => q.1.toNat)).sum := by
    intro l
    induction l with
    | nil => intro _; show 0 * _ ≤ _; omega
    | cons q r ih =>
      intro hl
      have i := ih fun z hz => hl z (List.mem_cons_of_mem _ hz)
      have hq := hl q List.mem_cons_self
      obtain ⟨n, e, _⟩ := st.1.pr q hq
      have h1 := st.2 q.1
      rw [ig_mem ndL hq, hx] at h1
      have h2 : q.2 * x = lg M q.1 := by
        refine Int.eq_of_mul_eq_mul_right (a := d) (by omega) ?_
        rw [← h1, Int.mul_comm d x, Int.mul_assoc]
      have e3 : ((q.1.toNat : Nat) : Int) = q.1 := by omega
      have h3 : (lg M q.1).natAbs = q.2.natAbs * x.toNat := by
        rw [← h2, Int.natAbs_mul]; congr 1; omega
      unfold cost at *
      rw [List.map_cons, List.sum_cons, List.map_cons, List.sum_cons, Nat.add_mul]
      show _ ≤ (lg M ((q.1.toNat : Nat) : Int)).natAbs + _
      rw [e3, h3]; omega
  exact key L fun _ h => h
/-- what GL8 asks of the sizes -/
theorem fitS {L M : List (Int × Int)} {d B : Int} {n : Nat} (st : St4 d L B (lg M)) (hB : 0 < B) (hBl : B ≤ 40000) (hn : 0 < n) (hM : ∀ q ∈ M, 0 < q.2 ∧ q.2 < 2 ^ n) (hw : n * (2 * wgt M) ≤ 100000) :
    Fits n 1 L ∧ (up 1 L).natAbs < 2 ^ (n * (1 * cost L) + L.length + 1) ∧ (dn 1 L).natAbs < 2 ^ (n * (1 * cost L) + L.length + 1) ∧ (n * (1 * cost L) + L.length + 1) * (2 * (B / d).toNat) ≤ 400000 := by
  have ft := fitsW st hB hn hM (by omega)
  have ba : ∀ q ∈ L, q.1.natAbs < 2 ^ n := fun q hq => by
    obtain ⟨a1, a2⟩ := ft.pos q hq
    have e2 : ((2 : Int) ^ n) = ((2 ^ n : Nat) : Int) := by simp
    omega
  refine ⟨ft, up_bits ba, dn_bits ba, ?_⟩
  have hc := cost_near st hB fun q hq => (hM q hq).1
  have hl := len_cost st.1.nz
  have d1 := st.1.d1
  have nr1 : B / d ≤ B := Int.ediv_le_self _ (by omega)
  have nr0 : 0 ≤ B / d := Int.ediv_nonneg (by omega) (by omega)
  have y1 : (B / d).toNat ≤ 40000 := by omega
  generalize (B / d).toNat = y at *
  have e1 : n * (2 * wgt M) = 2 * (n * wgt M) := Nat.mul_left_comm ..
  have e2 : wgt M ≤ n * wgt M := Nat.le_mul_of_pos_left _ hn
  have e3 : n * (1 * cost L) * y ≤ n * wgt M := by
    rw [Nat.one_mul, Nat.mul_assoc]; exact Nat.mul_le_mul_left _ hc
  have e4 : L.length * y ≤ wgt M := Nat.le_trans (Nat.mul_le_mul_right _ hl) hc
  have e5 : (n * (1 * cost L) + L.length + 1) * (2 * y) = 2 * (n * (1 * cost L) * y + L.length * y + y) := by
    rw [Nat.mul_left_comm, Nat.add_mul, Nat.add_mul, Nat.one_mul y]
  rw [e5]
  omega
end K02

namespace K02
open PySem PySem.Spec PyProof.Rows L2 Ly Am
theorem lg_wgt {M : List (Int × Int)} (hM : ∀ q ∈ M, 0 < q.2) (p : Int) : (lg M p).natAbs ≤ wgt M := by
  by_cases h : ∃ n : Nat, p = n ∧ Pr n
  · obtain ⟨n, rfl, pr⟩ := h
    have := sum_lg (ps := [n]) (by simp) (by intro q hq; rw [List.mem_singleton.mp hq]; exact pr) hM
    simpa using this
  · rw [lg_no _ h]; exact Nat.zero_le _
theorem bdW {M : List (Int × Int)} {B : Int} (hB : 0 < B) (hB2 : B ≤ 40000) (hM : ∀ q ∈ M, 0 < q.2 ∧ q.2 ≤ 1000) (hw : wgt M ≤ 1000000) : Bd B (lg M) :=
  ⟨hB, by omega, fun p h => (lg_key (m := 1000) h hM).2, fun p => by
    have := lg_wgt (fun q hq => (hM q hq).1) p
    omega⟩
section
variable {P : Program} {w : World} {K : PySem.W.Frag} {mg : Str → Option Value} {base : Heap}
def spIsSum (K : PySem.W.Frag) : Sp := fun vs H Q _ => ∃ (a b : Addr) (v1 v2 v3 : V) (m1 T1 B1 m2 T2 B2 : Int) (M1 M2 : List (Int × Int)) (s : Int), vs = [.ref a, .ref b, v3, .int s] ∧
  SqT K H a [v1, .int m1, .int T1, .int B1] ∧ SqT K H b [v2, .int m2, .int T2, .int B2] ∧ Kn m1 T1 B1 (lg M1) ∧ Kn m2 T2 B2 (lg M2) ∧ (s = 1 ∨ s = -1) ∧
  (∀ q ∈ M1 ++ M2, 0 < q.2 ∧ q.2 ≤ 1000) ∧ 10 * (2 * (m2.natAbs * wgt M1 + m1.natAbs * wgt M2)) ≤ 100000 ∧ Val K H v3 (m1 * m2) (lg (scl m2 M1 ++ scl (s * m1) M2)) ∧ ∀ H', Same H H' → Q (.bl true) H'
theorem ca_L_is_sum (T : Tx K mg) : Ca P w K mg base 4 "_law_is_sum" s_L_is_sum ["_law_one", "_law_other", "_law_both", "_law_sign"] (spIsSum K) := by
  have C_L_power := ca_L_power (P := P) (w := w) (base := base) T
  have C_L_stands := ca_L_stands (P := P) (w := w) (base := base) T
  refine Ca.of (fd_L_is_sum T) sc_L_is_sum ?_ ?_
  · rintro vs H Q E ⟨a, b, v1, v2, v3, m1, T1, B1, m2, T2, B2, M1, M2, s, rfl, _⟩; rfl
  · rintro f cdv A out s H vs Q E hr ⟨a, b, v1, v2, v3, m1, T1, B1, m2, T2, B2, M1, M2, sg, rfl, ha, hb, k1, k2, hs, hM, hw, hv, q⟩
    refine ⟨_, (pss_cons (ps_par (i := 4) (j := 5) rfl sc_L_is_sum.nd rfl rfl (by decide) rfl rfl (pa_cons (pe_slice sl_tupA (pv 0) (po_some pe_int) po_none) (pa_cons (pe_slice sl_tupA (pv 1) (po_some pe_int) po_none) pa_nil)) rfl)
 (pss_cons (ps_set (i := 6) sc_L_is_sum.nd rfl (.inl rfl) (pe_op op_mulW (pe_ix ix_tup (pv 4) pe_int (fun _ _ => rfl)) (pe_ix ix_tup (pv 5) pe_int (fun _ _ => rfl))))
 (pss_cons (ps_par (i := 7) (j := 8) rfl sc_L_is_sum.nd rfl rfl (by decide) rfl rfl (pa_cons (pe_ca C_L_power hr (pa_cons (pe_ix ix_tup (pv 4) pe_int (fun _ _ => rfl)) (pa_cons (pe_ix ix_tup (pv 5) pe_int (fun _ _ => rfl)) pa_nil))) (pa_cons (pe_ca C_L_power hr (pa_cons (pe_ix ix_tup (pv 4) pe_int (fun _ _ => rfl)) (pa_cons (pe_ix ix_tup (pv 5) pe_int (fun _ _ => rfl)) pa_nil))) pa_nil)) rfl)
 (pss_cons (ps_if (pt_cmpR op_gt (pv 3) pe_int (nomark _))
 (pss_one (ps_par (i := 7) (j := 8) rfl sc_L_is_sum.nd rfl rfl (by decide) rfl rfl (pa_cons (pe_op op_mulW (pv 7) (pe_ca C_L_power hr (pa_cons (pe_ix ix_tup (pv 5) pe_int (fun _ _ => rfl)) (pa_cons (pe_ix ix_tup (pv 4) pe_int (fun _ _ => rfl)) pa_nil)))) (pa_cons (pe_op op_mulW (pv 8) (pe_ca C_L_power hr (pa_cons (pe_ix ix_tup (pv 5) pe_int (fun _ _ => rfl)) (pa_cons (pe_ix ix_tup (pv 4) pe_int (fun _ _ => rfl)) pa_nil)))) pa_nil)) rfl))
 (pss_one (ps_par (i := 7) (j := 8) rfl sc_L_is_sum.nd rfl rfl (by decide) rfl rfl (pa_cons (pe_op op_mulW (pv 7) (pe_ca C_L_power hr (pa_cons (pe_ix ix_tup (pv 5) pe_int (fun _ _ => rfl)) (pa_cons (pe_ix ix_tup (pv 4) pe_int (fun _ _ => rfl)) pa_nil)))) (pa_cons (pe_op op_mulW (pv 8) (pe_ca C_L_power hr (pa_cons (pe_ix ix_tup (pv 5) pe_int (fun _ _ => rfl)) (pa_cons (pe_ix ix_tup (pv 4) pe_int (fun _ _ => rfl)) pa_nil)))) pa_nil)) rfl)))
 (pss_one (ps_ret (pe_ca C_L_stands hr (pa_cons (pv 2) (pa_cons (pv 6) (pa_cons (pv 7) (pa_cons (pv 8) pa_nil))))))))))), ?_⟩
    have no : ∀ (x : V) (y z u : V), ¬ (HT.sIx [x, y, z, u].length 0 (some 1) = 0 ∧ HT.sIx [x, y, z, u].length [x, y, z, u].length none = [x, y, z, u].length) := fun x y z u => by
      have := HT.sIx_nat [x, y, z, u].length 0 1
      rw [show ((1 : Nat) : Int) = 1 from rfl] at this
      rw [this]; simp
    refine ⟨_, rfl, 1, rfl, a, _, rfl, ha, fun hw => absurd hw (no _ _ _ _), fun _ p1 np1 => ?_⟩
    rw [cut_tail]
    have s1 := same_new (o := .tup [V.int m1, V.int T1, V.int B1]) np1
    have hp1 : SqT K (upd H p1 (.tup [V.int m1, V.int T1, V.int B1])) p1 [V.int m1, V.int T1, V.int B1] := sqT_new
    generalize upd H p1 (.tup [V.int m1, V.int T1, V.int B1]) = H1 at *
    refine ⟨_, rfl, 1, rfl, b, _, rfl, SqT.same s1 hb, fun hw => absurd hw (no _ _ _ _), fun _ p2 np2 => ?_⟩
    rw [cut_tail]
    have s2 := same_new (o := .tup [V.int m2, V.int T2, V.int B2]) np2
    have hp2 : SqT K (upd H1 p2 (.tup [V.int m2, V.int T2, V.int B2])) p2 [V.int m2, V.int T2, V.int B2] := sqT_new
    have hp1' := SqT.same s2 hp1
    generalize upd H1 p2 (.tup [V.int m2, V.int T2, V.int B2]) = H2 at *
    have m10 := k1.m0
    have m20 := k2.m0
    have l1 := k1.ml
    have l2 := k2.ml
    have e1 : ((m1.toNat : Nat) : Int) = m1 := by omega
    have e2 : ((m2.toNat : Nat) : Int) = m2 := by omega
    have w1 := pow_bits k1.Tb m2.toNat
    have w2 := pow_bits k2.Bb m1.toNat
    have w3 := pow_bits k2.Tb m1.toNat
    have w4 := pow_bits k1.Bb m2.toNat
    refine ⟨_, _, rfl, ?_⟩
    refine ⟨_, rfl, p1, _, 0, _, rfl, rfl, hp1', atI_nat (j := 0) rfl, _, rfl, p2, _, 0, _, rfl, rfl, hp2, atI_nat (j := 0) rfl, _, _, rfl, rfl, wide_mul (a := 20) (b := 20) (by omega) (by omega) (by omega) (by omega) (by omega), ?_⟩
    refine ⟨_, rfl, p1, _, 1, _, rfl, rfl, hp1', atI_nat (j := 1) rfl, _, rfl, p2, _, 0, _, rfl, rfl, hp2, atI_nat (j := 0) rfl, T1, m2.toNat, 600, by show [V.int T1, V.int m2] = _; rw [e2], k1.Tb, by omega, by omega, ?_⟩
    refine ⟨_, rfl, p1, _, 2, _, rfl, rfl, hp1', atI_nat (j := 2) rfl, _, rfl, p2, _, 0, _, rfl, rfl, hp2, atI_nat (j := 0) rfl, B1, m2.toNat, 600, by show [V.int B1, V.int m2] = _; rw [e2], k1.Bb, by omega, by omega, _, _, rfl, ?_⟩
    have mm0 : 0 < m1 * m2 := Int.mul_pos m10 m20
    have mml : m1 * m2 ≤ 200 * 200 := Int.mul_le_mul l1 l2 (by omega) (by omega)
    have T1p := k1.T0
    have B1p := k1.B0
    have T2p := k2.T0
    have B2p := k2.B0
    have nM : ∀ q ∈ scl m2 M1 ++ scl (sg * m1) M2, 0 < q.2 ∧ q.2 ≤ 1000 := fun q hq => by
      rcases List.mem_append.mp hq with h | h
      · obtain ⟨x, hx, rfl⟩ := List.mem_map.mp h
        exact hM x (List.mem_append_left _ hx)
      · obtain ⟨x, hx, rfl⟩ := List.mem_map.mp h
        exact hM x (List.mem_append_right _ hx)
    have wM : wgt (scl m2 M1 ++ scl (sg * m1) M2) = m2.natAbs * wgt M1 + m1.natAbs * wgt M2 := by
      rw [wgt_app, wgt_scl, wgt_scl]
      have : (sg * m1).natAbs = m1.natAbs := by
        rw [Int.natAbs_mul]
        rcases hs with h | h <;> (rw [h]; simp)
      rw [this]
    have bdM : Bd (m1 * m2) (lg (scl m2 M1 ++ scl (sg * m1) M2)) := bdW mm0 (by omega) nM (by rw [wM]; omega)
    have fit := fun (d : Int) (L : List (Int × Int)) (st : St4 d L (m1 * m2) (lg (scl m2 M1 ++ scl (sg * m1) M2))) =>
      fitS (n := 10) st mm0 (by omega) (by omega) (fun q hq => ⟨(nM q hq).1, by have := (nM q hq).2; omega⟩) (by rw [wM]; exact hw)
    obtain ⟨d0, L0, am0, st0⟩ := id hv
    have Vv := hv.same (s1.trans s2)
    refine ⟨_, rfl, _, _, rfl, rfl, _, rfl, ite2 (fun c => ?_) (fun c => ?_)⟩
    · have hsg : sg = 1 := by
        have : (0 : Int) < sg := of_decide_eq_true c
        omega
      refine ⟨_, rfl, _, rfl, p2, _, 1, _, rfl, rfl, hp2, atI_nat (j := 1) rfl, _, rfl, p1, _, 0, _, rfl, rfl, hp1', atI_nat (j := 0) rfl, T2, m1.toNat, 600, by show [V.int T2, V.int m1] = _; rw [e1], k2.Tb, by omega, by omega, ?_⟩
      refine ⟨_, _, rfl, rfl, wide_mul w1 w3 (by omega) (by omega) (by omega), ?_⟩
      refine ⟨_, rfl, _, rfl, p2, _, 2, _, rfl, rfl, hp2, atI_nat (j := 2) rfl, _, rfl, p1, _, 0, _, rfl, rfl, hp1', atI_nat (j := 0) rfl, B2, m1.toNat, 600, by show [V.int B2, V.int m1] = _; rw [e1], k2.Bb, by omega, by omega, ?_⟩
      refine ⟨_, _, rfl, rfl, wide_mul w4 w2 (by omega) (by omega) (by omega), _, _, rfl, ?_⟩
      have tb := wide_lt w1 w3
      have bb := wide_lt w4 w2
      have eN : 600 * m2.toNat + 1 + (600 * m1.toNat + 1) ≤ 400000 := by omega
      refine ⟨_, rfl, _, rfl, _, rfl, _, rfl, v3, m1 * m2, T1 ^ m2.toNat * T2 ^ m1.toNat, B1 ^ m2.toNat * B2 ^ m1.toNat, _, 10, 10 * (1 * cost L0) + L0.length + 1, 600 * m2.toNat + 1 + (600 * m1.toNat + 1), rfl, Vv, bdM, by omega, Int.mul_pos (ipp _ T1p) (ipp _ T2p), Int.mul_pos (ipp _ B1p) (ipp _ B2p), fun p hp => ?_, fun d L st => ?_, tb, bb, eN, fun H3 s3 => q H3 ((s1.trans s2).trans s3)⟩
      · rw [vi_mul hp (ipp _ T1p) (ipp _ T2p), vi_mul hp (ipp _ B1p) (ipp _ B2p), vi_pow hp T1p, vi_pow hp B1p, vi_pow hp T2p, vi_pow hp B2p, lg_append, lg_scl, lg_scl, e1, e2, k1.vi p hp, k2.vi p hp, hsg]
        simp only [Int.mul_add, Int.one_mul, Int.neg_mul]
        omega
      · obtain ⟨g1, g2⟩ := St4.unique st st0 mm0 mm0 fun p => rfl
        subst g1 g2
        exact fit _ _ st
    · have hsg : sg = -1 := by
        have : ¬ (0 : Int) < sg := fun z => c (decide_eq_true z)
        omega
      refine ⟨_, rfl, _, rfl, p2, _, 2, _, rfl, rfl, hp2, atI_nat (j := 2) rfl, _, rfl, p1, _, 0, _, rfl, rfl, hp1', atI_nat (j := 0) rfl, B2, m1.toNat, 600, by show [V.int B2, V.int m1] = _; rw [e1], k2.Bb, by omega, by omega, ?_⟩
      refine ⟨_, _, rfl, rfl, wide_mul w1 w2 (by omega) (by omega) (by omega), ?_⟩
      refine ⟨_, rfl, _, rfl, p2, _, 1, _, rfl, rfl, hp2, atI_nat (j := 1) rfl, _, rfl, p1, _, 0, _, rfl, rfl, hp1', atI_nat (j := 0) rfl, T2, m1.toNat, 600, by show [V.int T2, V.int m1] = _; rw [e1], k2.Tb, by omega, by omega, ?_⟩
      refine ⟨_, _, rfl, rfl, wide_mul w4 w3 (by omega) (by omega) (by omega), _, _, rfl, ?_⟩
      have tb := wide_lt w1 w2
      have bb := wide_lt w4 w3
      have eN : 600 * m2.toNat + 1 + (600 * m1.toNat + 1) ≤ 400000 := by omega
      refine ⟨_, rfl, _, rfl, _, rfl, _, rfl, v3, m1 * m2, T1 ^ m2.toNat * B2 ^ m1.toNat, B1 ^ m2.toNat * T2 ^ m1.toNat, _, 10, 10 * (1 * cost L0) + L0.length + 1, 600 * m2.toNat + 1 + (600 * m1.toNat + 1), rfl, Vv, bdM, by omega, Int.mul_pos (ipp _ T1p) (ipp _ B2p), Int.mul_pos (ipp _ B1p) (ipp _ T2p), fun p hp => ?_, fun d L st => ?_, tb, bb, eN, fun H3 s3 => q H3 ((s1.trans s2).trans s3)⟩
      · rw [vi_mul hp (ipp _ T1p) (ipp _ B2p), vi_mul hp (ipp _ B1p) (ipp _ T2p), vi_pow hp T1p, vi_pow hp B1p, vi_pow hp B2p, vi_pow hp T2p, lg_append, lg_scl, lg_scl, e1, e2, k1.vi p hp, k2.vi p hp, hsg]
        simp only [Int.mul_add, Int.one_mul, Int.neg_mul]
        omega
      · obtain ⟨g1, g2⟩ := St4.unique st st0 mm0 mm0 fun p => rfl
        subst g1 g2
        exact fit _ _ st
end
end K02

namespace K02
open PySem PySem.Spec PyProof.Rows L2 Ly Am
theorem merge_kd : ∀ (L M : List (Int × Int)), ((M ++ L).map (·.1)).Nodup → mergeK (kd M) (kd L) = kd (M ++ L)
  | [], M, _ => by rw [List.append_nil]; rfl
  | q :: r, M, h => by
    have e : mergeK (kd M) (kd (q :: r)) = mergeK (putK (kd M) (Sum.inl q.1) (V.int q.2)) (kd r) := rfl
    have n : M.lookup q.1 = none := by
      apply (lookup_none_iff _ _).mpr
      intro x hx z
      rw [List.map_append, List.nodup_append] at h
      exact h.2.2 _ (List.mem_map.mpr ⟨x, hx, rfl⟩) _ (by rw [List.map_cons]; exact List.mem_cons_self) z
    rw [e, kd_put, ip_new n, merge_kd r (M ++ [(q.1, q.2)]) (by simpa using h)]
    simp
theorem paired_kd {K : PySem.W.Frag} {H : Hp} : ∀ {rs : List Addr} {L : List (Int × Int)}, PairsAt K H rs L → Paired (fun p kv => SqT K H p [kV kv.1, kv.2]) rs (kd L)
  | [], [], .nil => .nil
  | _, _, .cons h t => .cons h (paired_kd t)
theorem keys_kd (L : List (Int × Int)) : (kd L).map (fun kv => kV kv.1) = (L.map (·.1)).map V.int := by
  unfold kd; rw [List.map_map, List.map_map]; rfl
theorem dict_of {L : List (Int × Int)} (h : (L.map (·.1)).Nodup) : mergeK [] (kd L) = kd L := merge_kd L [] (by simpa using h)
section
variable {P : Program} {w : World} {K : PySem.W.Frag} {mg : Str → Option Value} {base : Heap}
def spNear (K : PySem.W.Frag) : Sp := fun vs H Q _ => ∃ (v1 v2 : V) (d1 d2 : Int) (L1 L2 : List (Int × Int)), vs = [v1, v2] ∧ AmtAt K H v1 d1 L1 ∧ AmtAt K H v2 d2 L2 ∧ AmOk d1 L1 ∧ AmOk d2 L2 ∧ L1.length + L2.length < 64 ∧
  ∀ b H', Same H H' → Q (.bl b) H'
theorem ca_L_is_near_enough (T : Tx K mg) : Ca P w K mg base 2 "_law_is_near_enough" s_L_is_near_enough ["_law_one", "_law_other"] (spNear K) := by
  have C_L_gcd := ca_L_gcd (P := P) (w := w) (base := base) T
  refine Ca.of (fd_L_is_near_enough T) sc_L_is_near_enough ?_ ?_
  · rintro vs H Q E ⟨v1, v2, d1, d2, L1, L2, rfl, _⟩; rfl
  · rintro f cdv A out s H vs Q E hr ⟨v1, v2, d1, d2, L1, L2, rfl, ⟨a, a2, ra, rfl, ha, ha2, hra⟩, ⟨b, b2, rb, rfl, hb, hb2, hrb⟩, ok1, ok2, len, q⟩
    refine ⟨_, (pss_cons (ps_set (i := 2) sc_L_is_near_enough.nd rfl (.inl rfl) (pe_op op_fdivW (pe_op op_mulW (pe_ix ix_tup (pv 0) pe_int (fun _ _ => rfl)) (pe_ix ix_tup (pv 1) pe_int (fun _ _ => rfl))) (pe_ca C_L_gcd hr (pa_cons (pe_ix ix_tup (pv 0) pe_int (fun _ _ => rfl)) (pa_cons (pe_ix ix_tup (pv 1) pe_int (fun _ _ => rfl)) pa_nil)))))
 (pss_cons (ps_if (pt_cmpR op_gt (pv 2) pe_int (nomark _))
 (pss_one (ps_ret pe_bl))
 pss_nil)
 (pss_cons (ps_par (i := 3) (j := 4) rfl sc_L_is_near_enough.nd rfl rfl (by decide) rfl rfl (pa_cons (pe_callTy (call_dictP rfl) (by rfl) T.f_dict (by decide +kernel) (pa_cons (pe_callTy call_list_of (by rfl) T.f_list (by decide +kernel) (pa_cons (pe_ix ix_tup (pv 0) pe_int (fun _ _ => rfl)) pa_nil)) pa_nil)) (pa_cons (pe_callTy (call_dictP rfl) (by rfl) T.f_dict (by decide +kernel) (pa_cons (pe_callTy call_list_of (by rfl) T.f_list (by decide +kernel) (pa_cons (pe_ix ix_tup (pv 1) pe_int (fun _ _ => rfl)) pa_nil)) pa_nil)) pa_nil)) rfl)
 (pss_cons (ps_set (i := 5) sc_L_is_near_enough.nd rfl (.inl rfl) pe_int)
 (pss_cons (ps_for PassesOwn.never rfl (pi_list (pe_callB (cr_sortedSet rfl) (by rfl) T.f_sorted (by decide +kernel) (pa_cons (pe_callTy (cr_setL rfl) (by rfl) T.f_set (by decide +kernel) (pa_cons (pe_op op_cat (pe_callTy (call_listD rfl) (by rfl) T.f_list (by decide +kernel) (pa_cons (pv 3) pa_nil)) (pe_callTy (call_listD rfl) (by rfl) T.f_list (by decide +kernel) (pa_cons (pv 4) pa_nil))) pa_nil)) pa_nil))) (pg_name (i := 6) sc_L_is_near_enough.nd rfl (.inl rfl))
 (pss_one (ps_set (i := 5) sc_L_is_near_enough.nd rfl (.inl rfl) (pe_op op_add (pv 5) (pe_op op_mulW (pe_callB call_abs (by rfl) T.f_abs (by decide +kernel) (pa_cons (pe_op op_sub (pe_op op_mulW (pe_dget2 (hu_of hr) (pv 3) (pv 6) pe_int ⟨rfl, rfl, rfl, rfl⟩) (pe_op op_fdivW (pv 2) (pe_ix ix_tup (pv 0) pe_int (fun _ _ => rfl)))) (pe_op op_mulW (pe_dget2 (hu_of hr) (pv 4) (pv 6) pe_int ⟨rfl, rfl, rfl, rfl⟩) (pe_op op_fdivW (pv 2) (pe_ix ix_tup (pv 1) pe_int (fun _ _ => rfl))))) pa_nil)) (pe_bits (pv 6)))))))
 (pss_one (ps_ret (pe_cmpR op_le (pv 5) pe_int (nomark _))))))))), ?_⟩
    have p1 := ok1.cn.d1
    have p2 := ok2.cn.d1
    have l1 := ok1.dl
    have l2 := ok2.dl
    have g0 : 0 < Nat.gcd d1.natAbs d2.natAbs := Nat.gcd_pos_of_pos_left _ (by omega)
    have g1 : Nat.gcd d1.natAbs d2.natAbs ≤ d1.natAbs := Nat.gcd_le_left _ (by omega)
    refine ⟨_, rfl, a, _, 0, _, rfl, rfl, ha, atI_nat (j := 0) rfl, _, rfl, b, _, 0, _, rfl, rfl, hb, atI_nat (j := 0) rfl, _, _, rfl, rfl, wide_mul (a := 64) (b := 64) (by omega) (by omega) (by omega) (by omega) (by omega), ?_⟩
    refine ⟨_, rfl, a, _, 0, _, rfl, rfl, ha, atI_nat (j := 0) rfl, _, rfl, b, _, 0, _, rfl, rfl, hb, atI_nat (j := 0) rfl, _, _, rfl, by omega, ?_⟩
    have glog : ((Nat.gcd d1.natAbs d2.natAbs : Nat) : Int).natAbs.log2 < 9000 := by
      rw [Int.natAbs_natCast]
      have : (Nat.gcd d1.natAbs d2.natAbs).log2 < 65 := (Nat.log2_lt (by omega)).mpr (by omega)
      omega
    refine ⟨_, _, rfl, rfl, ⟨by omega, glog⟩, ?_⟩
    obtain ⟨bt, ebt⟩ : ∃ bt, d1 * d2 / ((Nat.gcd d1.natAbs d2.natAbs : Nat) : Int) = bt := ⟨_, rfl⟩
    have bt0 : 0 ≤ bt := by rw [← ebt]; exact Int.ediv_nonneg (Int.le_of_lt (Int.mul_pos p1 p2)) (by omega)
    dsimp only
    rw [ebt]
    refine ⟨_, rfl, _, _, rfl, rfl, _, rfl, ite2 (fun _ => q false H (Same.refl H)) (fun c => ?_)⟩
    have bt9 : bt ≤ 1000 := by
      have : ¬ (1000 : Int) < bt := fun z => c (decide_eq_true z)
      omega
    refine ⟨_, rfl, a, _, 1, _, rfl, rfl, ha, atI_nat (j := 1) rfl, a2, _, rfl, .inr ha2, fun x1 nx1 => ?_⟩
    have s1 := same_new (o := .lst (ra.map V.ref)) nx1
    refine ⟨x1, ra, kd L1, rfl, sqL_new, paired_kd (hra.kp (Ly.Same.kp s1)), fun D1 nD1 => ?_⟩
    rw [dict_of (asc_nodup ok1.cn.asc)]
    have s2 := same_new (o := .dK (kd L1)) nD1
    have hD1 : upd (upd H x1 (.lst (ra.map V.ref))) D1 (.dK (kd L1)) D1 = some (.dK (kd L1)) := upd_same
    have s12 := s1.trans s2
    generalize upd (upd H x1 (.lst (ra.map V.ref))) D1 (.dK (kd L1)) = H1 at *
    refine ⟨_, rfl, b, _, 1, _, rfl, rfl, SqT.same s12 hb, atI_nat (j := 1) rfl, b2, _, rfl, .inr (SqT.same s12 hb2), fun x2 nx2 => ?_⟩
    have s3 := same_new (o := .lst (rb.map V.ref)) nx2
    refine ⟨x2, rb, kd L2, rfl, sqL_new, paired_kd (hrb.kp (Ly.Same.kp (s12.trans s3))), fun D2 nD2 => ?_⟩
    rw [dict_of (asc_nodup ok2.cn.asc)]
    have s4 := same_new (o := .dK (kd L2)) nD2
    have hD2 : upd (upd H1 x2 (.lst (rb.map V.ref))) D2 (.dK (kd L2)) D2 = some (.dK (kd L2)) := upd_same
    have hD1' := (s3.trans s4) _ _ hD1
    have s14 := s12.trans (s3.trans s4)
    generalize upd (upd H1 x2 (.lst (rb.map V.ref))) D2 (.dK (kd L2)) = H2 at *
    refine ⟨_, _, rfl, ?_⟩
    refine ⟨_, rfl, D1, kd L1, rfl, .inl hD1', fun x3 nx3 => ?_⟩
    rw [keys_kd]
    have s5 := same_new (o := .lst ((L1.map (·.1)).map V.int)) nx3
    have h3 : upd H2 x3 (.lst ((L1.map (·.1)).map V.int)) x3 = some (.lst ((L1.map (·.1)).map V.int)) := upd_same
    generalize upd H2 x3 (.lst ((L1.map (·.1)).map V.int)) = H3 at *
    refine ⟨_, rfl, D2, kd L2, rfl, .inl (s5 _ _ hD2), fun x4 nx4 => ?_⟩
    rw [keys_kd]
    have s6 := same_new (o := .lst ((L2.map (·.1)).map V.int)) nx4
    have h4 : upd H3 x4 (.lst ((L2.map (·.1)).map V.int)) x4 = some (.lst ((L2.map (·.1)).map V.int)) := upd_same
    generalize upd H3 x4 (.lst ((L2.map (·.1)).map V.int)) = H4 at *
    refine ⟨x3, x4, _, _, rfl, rfl, s6 _ _ h3, h4, by rw [List.length_map, List.length_map, List.length_map, List.length_map, sizeLine_eq]; omega, fun x5 nx5 => ?_⟩
    rw [← List.map_append]
    have s7 := same_new (o := .lst ((L1.map (·.1) ++ L2.map (·.1)).map V.int)) nx5
    have kl : (L1.map (·.1) ++ L2.map (·.1)).length = L1.length + L2.length := by rw [List.length_append, List.length_map, List.length_map]
    refine ⟨x5, _, rfl, sqL_new, by omega, fun x6 cc HS s8 hS hcc => ?_⟩
    refine ⟨x6, _, cc, rfl, hS, by omega, fun ps x7 asc mem pl nx7 => ?_⟩
    have s9 := same_new (o := .lst (ps.map V.int)) nx7
    have s29 := s5.trans (s6.trans (s7.trans (s8.trans s9)))
    have hx7 := sqL_new (K := K) (H := HS) (p := x7) (xs := ps.map V.int)
    generalize upd HS x7 (.lst (ps.map V.int)) = H5 at *
    have d1' := s29 _ _ hD1'
    have d2' := s29 _ _ hD2
    have s05 := s14.trans s29
    refine ⟨x7, rfl, ⟨_, hx7⟩, ?_⟩
    refine for_list (xs := ps.map V.int) (fun i σ H' => ∃ cost y, σ = [some (.ref a), some (.ref b), some (.int bt), some (.ref D1), some (.ref D2), some (.int cost), y] ∧ H5 = H') ⟨0, none, rfl, rfl⟩ ?_ ?_ ?_
    · rintro i σ H' _ ⟨_, _, _, rfl⟩; exact hx7
    · rintro i x σ H' hx ⟨cost, y, rfl, rfl⟩
      obtain ⟨p, hp, rfl⟩ := map_at hx
      have pm := (mem p).mp (List.mem_of_getElem? hp)
      have pb : 2 ≤ p ∧ p ≤ 1000 := by
        rcases List.mem_append.mp (of_decide_eq_true pm) with h | h
        · obtain ⟨z, hz, rfl⟩ := List.mem_map.mp h
          obtain ⟨m, e, pr, _⟩ := ok1.cn.pr z hz
          have := pr.two
          exact ⟨by omega, ok1.key z hz⟩
        · obtain ⟨z, hz, rfl⟩ := List.mem_map.mp h
          obtain ⟨m, e, pr, _⟩ := ok2.cn.pr z hz
          have := pr.two
          exact ⟨by omega, ok2.key z hz⟩
      have dlog : ∀ d : Int, 0 < d → d < 2 ^ 64 → d.natAbs.log2 < 9000 := fun d h0 h1 => by
        have : d.natAbs.log2 < 65 := (Nat.log2_lt (by omega)).mpr (by omega)
        omega
      have gb : ∀ (d : Int) (L : List (Int × Int)), AmOk d L → (ig L p).natAbs < 2 ^ 64 := fun d L ok => by
        rcases ig_cases L p with h | h
        · rw [h]; decide
        · exact ok.par _ h
      have qb : ∀ d : Int, 0 < d → (bt / d).natAbs < 2 ^ 20 := fun d h0 => by
        have h1 : bt / d ≤ bt := Int.ediv_le_self _ bt0
        have h2 : 0 ≤ bt / d := Int.ediv_nonneg bt0 (by omega)
        omega
      refine ⟨_, rfl, _, rfl, D1, rfl, .inl ⟨_, .inl d1'⟩, _, rfl, _, DGet.k (k := Sum.inl p) d1', _, rfl, _, rfl, a, _, 0, _, rfl, rfl, SqT.same s05 ha, atI_nat (j := 0) rfl, _, _, rfl, rfl, ⟨p1, dlog _ p1 l1⟩, ?_⟩
      refine ⟨_, _, kd_getD _ _, rfl, wide_mul (gb _ _ ok1) (qb _ p1) (by omega) (by omega) (by omega), ?_⟩
      refine ⟨_, rfl, D2, rfl, .inl ⟨_, .inl d2'⟩, _, rfl, _, DGet.k (k := Sum.inl p) d2', _, rfl, _, rfl, b, _, 0, _, rfl, rfl, SqT.same s05 hb, atI_nat (j := 0) rfl, _, _, rfl, rfl, ⟨p2, dlog _ p2 l2⟩, ?_⟩
      refine ⟨_, _, kd_getD _ _, rfl, wide_mul (gb _ _ ok2) (qb _ p2) (by omega) (by omega) (by omega), ?_⟩
      refine ⟨_, _, rfl, rfl, _, rfl, ?_⟩
      have u1 := wide_lt (gb _ _ ok1) (qb _ p1)
      have u2 := wide_lt (gb _ _ ok2) (qb _ p2)
      generalize ig L1 p * (bt / d1) = x1' at *
      generalize ig L2 p * (bt / d2) = x2' at *
      have ua : (if x1' - x2' < 0 then -(x1' - x2') else x1' - x2').natAbs < 2 ^ 90 := by split <;> omega
      obtain ⟨m, rfl⟩ : ∃ m : Nat, p = m := ⟨p.toNat, by omega⟩
      have ub : ((Builtin.Int.intBits (m : Int) : Nat) : Int).natAbs < 2 ^ 20 := by
        rw [bits_nat (by omega)]
        have : m.log2 < 11 := (Nat.log2_lt (by omega)).mpr (by omega)
        omega
      exact ⟨_, rfl, _, rfl, _, _, rfl, rfl, wide_mul ua ub (by omega) (by omega) (by omega), _, _, rfl, rfl, _, _, rfl, rfl⟩
    · rintro σ H' ⟨cost, y, rfl, rfl⟩
      exact ⟨_, rfl, _, _, rfl, rfl, q _ _ s05⟩
end
end K02

namespace K02
open PySem PySem.Spec PyProof.Rows L2 Ly Am
/-- how many primes there can be -/
def wg1 (M : List (Int × Int)) : Nat := (M.map fun q => q.2.toNat.log2).sum
theorem few_keys {L M : List (Int × Int)} {d B : Int} (st : St4 d L B (lg M)) (hB : 0 < B) (hM : ∀ q ∈ M, 0 < q.2) : L.length ≤ wg1 M := by
  have pr : ∀ p ∈ L.map (fun q => q.1.toNat), Pr p := fun p hp => by
    obtain ⟨q, hq, rfl⟩ := List.mem_map.mp hp
    obtain ⟨n, e, pn, _⟩ := st.1.pr q hq
    rw [e, Int.toNat_natCast]; exact pn
  have nd : (L.map fun q => q.1.toNat).Nodup := by
    rw [List.Nodup, List.pairwise_map]
    refine st.1.asc.imp_of_mem ?_
    intro a b ha hb hab z
    obtain ⟨n, e, _⟩ := st.1.pr a ha
    obtain ⟨m, e2, _⟩ := st.1.pr b hb
    rw [e, e2] at hab
    rw [e, e2, Int.toNat_natCast, Int.toNat_natCast] at z
    omega
  have M1 : ∀ q ∈ (M.map fun q => ((1 : Int), q.2)), 0 < q.2 := fun q hq => by
    obtain ⟨x, hx, rfl⟩ := List.mem_map.mp hq
    exact hM x hx
  have h := sum_lg nd pr M1
  have ew : wgt (M.map fun q => ((1 : Int), q.2)) = wg1 M := by
    unfold wgt wg1
    rw [List.map_map]
    congr 1
    apply List.map_congr_left
    intro q _
    show (1 : Int).natAbs * q.2.toNat.log2 = _
    rw [show (1 : Int).natAbs = 1 from rfl, Nat.one_mul]
  rw [ew, List.map_map] at h
  refine Nat.le_trans ?_ h
  have key : ∀ l : List (Int × Int), (∀ q ∈ l, q ∈ L) → l.length ≤ (l.map ((fun p : Nat => (lg (M.map fun q => ((1 : Int), q.2)) (p : Int)).natAbs) ∘ fun q => q.1.toNat)).sum := by
    intro l
    induction l with
    | nil => intro _; exact Nat.zero_le _
    | cons q r ih =>
      intro hl
      have i := ih fun z hz => hl z (List.mem_cons_of_mem _ hz)
      have hq := hl q List.mem_cons_self
      obtain ⟨n, e, pn, _⟩ := st.1.pr q hq
      have nz := st.zero hB hq
      rw [List.length_cons, List.map_cons, List.sum_cons]
      have : 1 ≤ (lg (M.map fun q => ((1 : Int), q.2)) ((q.1.toNat : Nat) : Int)).natAbs := by
        rw [e, Int.toNat_natCast]
        rw [e] at nz
        rw [lg_pr _ pn] at nz ⊢
        rw [List.map_map]
        have gen : ∀ N : List (Int × Int), (N.map fun q => q.1 * vi n q.2).sum ≠ 0 → 0 < (N.map ((fun q : Int × Int => q.1 * vi n q.2) ∘ fun q => ((1 : Int), q.2))).sum ∨ False := by
          intro N
          have nn : ∀ N : List (Int × Int), 0 ≤ (N.map ((fun q : Int × Int => q.1 * vi n q.2) ∘ fun q => ((1 : Int), q.2))).sum := by
            intro N
            induction N with
            | nil => exact Int.le_refl _
            | cons x t ih =>
              rw [List.map_cons, List.sum_cons]
              have : (0 : Int) ≤ vi n x.2 := by unfold vi; omega
              show 0 ≤ 1 * vi n x.2 + _
              omega
          induction N with
          | nil => intro h; exact absurd rfl h
          | cons x t ih =>
            intro h
            rw [List.map_cons, List.sum_cons] at h ⊢
            have v0 : (0 : Int) ≤ vi n x.2 := by unfold vi; omega
            have t0 := nn t
            left
            show 0 < 1 * vi n x.2 + _
            by_cases c : vi n x.2 = 0
            · rw [c, Int.mul_zero, Int.zero_add] at h
              rcases ih h with g | g
              · omega
              · exact g.elim
            · omega
        rcases gen M nz with g | g
        · omega
        · exact g.elim
      show r.length + 1 ≤ (lg _ ((q.1.toNat : Nat) : Int)).natAbs + _
      omega
  exact key L fun _ h => h
/-- what is known of a drawn amount -/
structure Dw (m T B : Int) (M : List (Int × Int)) : Prop where
  kn : Kn m T B (lg M)
  m20 : m ≤ 20
  num : ∀ q ∈ M, 0 < q.2 ∧ q.2 ≤ 1000
  wg : wgt M ≤ 120
  one : wg1 M ≤ 12
theorem Dw.bd {m T B : Int} {M : List (Int × Int)} (h : Dw m T B M) : Bd m (lg M) := bdW h.kn.m0 (by have := h.m20; omega) h.num (by have := h.wg; omega)
end K02

namespace K02
open PySem PySem.Spec PyProof.Rows L2 Ly Am
theorem vi_ee {p : Nat} (hp : Pr p) : ∀ {ns : List Int}, (∀ n ∈ ns, 0 < n) → vi p (ee ns) = (ns.map fun n => n * vi p n).sum
  | [], _ => vi_one hp
  | n :: r, h => by
    have n0 := h n List.mem_cons_self
    have hr : ∀ n ∈ r, 0 < n := fun x hx => h x (List.mem_cons_of_mem _ hx)
    rw [ee_cons, vi_mul hp (ipp _ n0) (ee_pos hr), vi_pow hp n0, vi_ee hp hr, List.map_cons, List.sum_cons, show ((n.toNat : Nat) : Int) = n by omega]
theorem log_le {n : Int} {k : Nat} (h : n < 2 ^ (k + 1)) : n.toNat.log2 ≤ k := by
  by_cases z : n.toNat = 0
  · rw [z]; exact Nat.zero_le _
  · have e : ((2 : Int) ^ (k + 1)) = ((2 ^ (k + 1) : Nat) : Int) := by simp
    have := (Nat.log2_lt z).mpr (show n.toNat < 2 ^ (k + 1) by omega)
    omega
/-- the logarithm of a number, some times over -/
theorem dw_num {n t b : Int} (h0 : 0 < n) (h1 : n ≤ 1000) (hs : (t = 1 ∧ b = 1) ∨ (n ≤ 60 ∧ -12 ≤ t ∧ t ≤ 12 ∧ 0 < b ∧ b ≤ 12)) :
    Dw b (if 0 ≤ t then n ^ t.toNat else 1) (if 0 ≤ t then 1 else n ^ (-t).toNat) [(t, n)] := by
  have bb : 0 < b ∧ b ≤ 12 := by omega
  have tb : -12 ≤ t ∧ t ≤ 12 := by omega
  have nb : n.natAbs < 2 ^ 10 := by omega
  have w := fun j => pow_bits nb j
  have pw : ∀ j : Nat, j ≤ 12 → (n ^ j).natAbs < 2 ^ 600 := fun j hj => Nat.lt_of_lt_of_le (w j) (Nat.pow_le_pow_right (by omega) (by omega))
  have one : (1 : Int).natAbs < 2 ^ 600 := Nat.one_lt_two_pow (by omega)
  refine ⟨⟨bb.1, by omega, ?_, ?_, fun p hp => ?_, ?_, ?_⟩, by omega, fun q hq => ?_, ?_, ?_⟩
  · split
    · exact ipp _ h0
    · omega
  · split
    · omega
    · exact ipp _ h0
  · rw [lg_pr _ hp]
    show _ = _ + (t * vi p n + 0)
    split
    · rw [vi_pow hp h0, vi_one hp, show ((t.toNat : Nat) : Int) = t by omega]; omega
    · rw [vi_pow hp h0, vi_one hp, show (((-t).toNat : Nat) : Int) = -t by omega, Int.neg_mul]; omega
  · split
    · exact pw _ (by omega)
    · exact one
  · split
    · exact one
    · exact pw _ (by omega)
  · rw [List.mem_singleton.mp hq]; exact ⟨h0, h1⟩
  · show t.natAbs * n.toNat.log2 + 0 ≤ 120
    have l9 : n.toNat.log2 ≤ 9 := log_le (by omega)
    rcases hs with ⟨e, _⟩ | ⟨h6, _⟩
    · rw [e]; show 1 * _ + 0 ≤ _; omega
    · have l5 : n.toNat.log2 ≤ 5 := log_le (by omega)
      have : t.natAbs * n.toNat.log2 ≤ 12 * 5 := Nat.mul_le_mul (by omega) l5
      omega
  · show n.toNat.log2 + 0 ≤ 12
    have l9 : n.toNat.log2 ≤ 9 := log_le (by omega)
    omega
theorem wgt_spr : ∀ (ns : List Int), (∀ n ∈ ns, 0 < n ∧ n ≤ 5) → wgt (ns.map fun n => (-n, n)) ≤ 2 * ns.sum.toNat ∧ wg1 (ns.map fun n => (-n, n)) ≤ 2 * ns.length ∧ 0 ≤ ns.sum
  | [], _ => ⟨Nat.zero_le _, Nat.zero_le _, Int.le_refl _⟩
  | n :: r, h => by
    obtain ⟨i1, i2, i3⟩ := wgt_spr r fun x hx => h x (List.mem_cons_of_mem _ hx)
    have ⟨n0, n5⟩ := h n List.mem_cons_self
    have l2 : n.toNat.log2 ≤ 2 := log_le (by omega)
    have e1 : wgt ((n :: r).map fun n => (-n, n)) = (-n).natAbs * n.toNat.log2 + wgt (r.map fun n => (-n, n)) := rfl
    have e2 : wg1 ((n :: r).map fun n => (-n, n)) = n.toNat.log2 + wg1 (r.map fun n => (-n, n)) := rfl
    have m : (-n).natAbs * n.toNat.log2 ≤ (-n).natAbs * 2 := Nat.mul_le_mul_left _ l2
    rw [e1, e2, List.sum_cons, List.length_cons]
    omega
theorem sum_five : ∀ (ns : List Int), (∀ n ∈ ns, 0 < n ∧ n ≤ 5) → ns.sum ≤ 5 * ns.length
  | [], _ => Int.le_refl _
  | n :: r, h => by
    have i := sum_five r fun x hx => h x (List.mem_cons_of_mem _ hx)
    have := h n List.mem_cons_self
    rw [List.sum_cons, List.length_cons]; omega
/-- the spread of few small counts -/
theorem dw_spr {ns : List Int} (h : ∀ n ∈ ns, 0 < n ∧ n ≤ 5) (l0 : 0 < ns.length) (l4 : ns.length ≤ 4) :
    Dw ns.sum (ns.sum ^ ns.sum.toNat) (ee ns) (sprM ns) ∧ Cts ns ∧ ns.sum ≤ 20 := by
  have s5 := sum_five ns h
  have ct : Cts ns := ⟨fun n hn => (h n hn).1, l0, by omega, by omega⟩
  have s0 := ct.sum_pos
  have s20 : ns.sum ≤ 20 := by omega
  have sb : ns.sum.natAbs < 2 ^ 5 := by omega
  have w := pow_bits sb ns.sum.toNat
  have Tb : (ns.sum ^ ns.sum.toNat).natAbs < 2 ^ 600 := Nat.lt_of_lt_of_le w (Nat.pow_le_pow_right (by omega) (by omega))
  have e0 := ee_pos ct.pos
  have T0 := ipp ns.sum.toNat s0
  have el := ee_self ct.pos (fun z => by rw [z] at l0; exact absurd l0 (by decide))
  obtain ⟨w1, w2, _⟩ := wgt_spr ns h
  have ls : ns.sum.toNat.log2 ≤ 4 := log_le (by omega)
  refine ⟨⟨⟨s0, by omega, T0, e0, fun p hp => ?_, Tb, by omega⟩, s20, ct.pairs.num, ?_, ?_⟩, ct, s20⟩
  · rw [vi_pow hp s0, vi_ee hp ct.pos, lg_pr _ hp]
    have e : ∀ l : List Int, (l.map fun n => n * vi p n).sum + (((l.map fun n => (-n, n)).map fun q => q.1 * vi p q.2)).sum = 0 := by
      intro l
      induction l with
      | nil => rfl
      | cons x r ih =>
        rw [List.map_cons, List.sum_cons, List.map_cons, List.map_cons, List.sum_cons]
        show x * vi p x + _ + (-x * vi p x + _) = 0
        rw [Int.neg_mul]; omega
    have := e ns
    unfold sprM
    rw [List.map_cons, List.sum_cons, show ((ns.sum.toNat : Nat) : Int) = ns.sum by omega]
    show ns.sum * vi p ns.sum = _ + (ns.sum * vi p ns.sum + _)
    omega
  · show ns.sum.natAbs * ns.sum.toNat.log2 + wgt (ns.map fun n => (-n, n)) ≤ 120
    have : ns.sum.natAbs * ns.sum.toNat.log2 ≤ 20 * 4 := Nat.mul_le_mul (by omega) ls
    omega
  · show ns.sum.toNat.log2 + wg1 (ns.map fun n => (-n, n)) ≤ 12
    omega
end K02

namespace K02
open PySem PySem.Spec PyProof.Rows L2 Ly Am
section
variable {P : Program} {w : World} {K : PySem.W.Frag} {mg : Str → Option Value} {base : Heap}
def spDrawn (K : PySem.W.Frag) : Sp := fun vs H Q _ => ∃ (D C : Addr) (n : Nat), vs = [.ref D] ∧ DeckAt H D C n ∧ n < 2 ^ 28 ∧
  ∀ t v m T B M H', Ot D C H H' → DeckAt H' D C (n + 10) → SqT K H' t [v, .int m, .int T, .int B] → Val K H' v m (lg M) → Dw m T B M → Q (.ref t) H'
theorem pick_num : ∀ n ∈ ([1, 2, 3, 4, 6, 8, 12, 27, 36, 60, 997, 1000] : List Int), 0 < n ∧ n ≤ 1000 := by decide
theorem ca_L_drawn (T : Tx K mg) : Ca P w K mg base 7 "_law_drawn" s_L_drawn ["_law_deck_here"] (spDrawn K) := by
  have C_L_draw := ca_L_draw (P := P) (w := w) (base := base) T
  have C_L_pick := ca_L_pick (P := P) (w := w) (base := base) T
  have C_L_power := ca_L_power (P := P) (w := w) (base := base) T
  have C_L_whole := ca_L_whole (P := P) (w := w) (base := base) T
  have C_amount_of := ca_amount_of (P := P) (w := w) (base := base) T
  have C_times := ca_times (P := P) (w := w) (base := base) T
  have C_spread := ca_spread (P := P) (w := w) (base := base) T
  refine Ca.of (fd_L_drawn T) sc_L_drawn ?_ ?_
  · rintro vs H Q E ⟨D, C, n, rfl, _⟩; rfl
  · rintro f cdv A out s H vs Q E hr ⟨D, C, n, rfl, da, hn, q⟩
    refine ⟨_, (pss_cons (ps_set (i := 1) sc_L_drawn.nd rfl (.inl rfl) (pe_ca C_L_draw hr (pa_cons (pv 0) (pa_cons pe_int pa_nil))))
 (pss_cons (ps_if (pt_cmpR op_eq (pv 1) pe_int (nomark _))
 (pss_cons (ps_set (i := 2) sc_L_drawn.nd rfl (.inl rfl) (pe_ifExp (pt_cmpR op_eq (pe_ca C_L_draw hr (pa_cons (pv 0) (pa_cons pe_int pa_nil))) pe_int (nomark _)) (pe_ca C_L_pick hr (pa_cons (pv 0) (pa_cons (pe_tup (pa_cons pe_int (pa_cons pe_int (pa_cons pe_int (pa_cons pe_int (pa_cons pe_int (pa_cons pe_int (pa_cons pe_int (pa_cons pe_int (pa_cons pe_int (pa_cons pe_int (pa_cons pe_int (pa_cons pe_int pa_nil))))))))))))) pa_nil))) (pe_op op_add pe_int (pe_ca C_L_draw hr (pa_cons (pv 0) (pa_cons pe_int pa_nil))))))
 (pss_one (ps_ret (pe_tup (pa_cons (pe_ca C_amount_of hr (pa_cons (pv 2) pa_nil)) (pa_cons pe_int (pa_cons (pv 2) (pa_cons pe_int pa_nil))))))))
 pss_nil)
 (pss_cons (ps_if (pt_cmpR op_eq (pv 1) pe_int (nomark _))
 (pss_cons (ps_par (i := 2) (j := 3) rfl sc_L_drawn.nd rfl rfl (by decide) rfl rfl (pa_cons (pe_op op_add pe_int (pe_ca C_L_draw hr (pa_cons (pv 0) (pa_cons pe_int pa_nil)))) (pa_cons (pe_op op_add pe_int (pe_ca C_L_draw hr (pa_cons (pv 0) (pa_cons pe_int pa_nil)))) pa_nil)) rfl)
 (pss_cons (ps_set (i := 4) sc_L_drawn.nd rfl (.inl rfl) (pe_op op_sub (pe_ca C_L_draw hr (pa_cons (pv 0) (pa_cons pe_int pa_nil))) pe_int))
 (pss_cons (ps_asg (pe_ifExp (pt_cmpR op_ge (pv 4) pe_int (nomark _)) (pe_tup (pa_cons (pe_ca C_L_power hr (pa_cons (pv 2) (pa_cons (pv 4) pa_nil))) (pa_cons pe_int pa_nil))) (pe_tup (pa_cons pe_int (pa_cons (pe_ca C_L_power hr (pa_cons (pv 2) (pa_cons (pe_un un_neg (pv 4)) pa_nil))) pa_nil)))) (pg_tup rfl (pgs_cons (pg_name (i := 5) sc_L_drawn.nd rfl (.inl rfl)) (pgs_cons (pg_name (i := 6) sc_L_drawn.nd rfl (.inl rfl)) pgs_nil))))
 (pss_one (ps_ret (pe_tup (pa_cons (pe_ca C_times hr (pa_cons (pe_ca C_amount_of hr (pa_cons (pv 2) pa_nil)) (pa_cons (pv 4) (pa_cons (pv 3) pa_nil)))) (pa_cons (pv 3) (pa_cons (pv 5) (pa_cons (pv 6) pa_nil))))))))))
 pss_nil)
 (pss_cons (ps_setLc (i := 7) (own := [("_law_turn", 9)]) rfl sc_L_drawn.nd rfl rfl (sw_true rfl rfl rfl (by decide +kernel)) (pi_range1 (by rfl) T.f_range (pa_cons (pe_op op_add pe_int (pe_ca C_L_draw hr (pa_cons (pv 0) (pa_cons pe_int pa_nil)))) pa_nil)) (blkOk_by (own := [("_law_turn", 9)]) (N := n_L_drawn) (sc := (defScope s_L_drawn)) (by decide +kernel)) (fun _ _ _ _ _ => (pg_name (i := 9) sc_L_drawn.nd rfl (Or.inl rfl) (Or.inr rfl))) (fun _ _ _ _ _ => pts_nil) (fun _ _ _ _ _ => (pe_op op_add pe_int (pe_ca C_L_draw hr (pa_cons (pv 0) (pa_cons pe_int pa_nil))))))
 (pss_cons (ps_if (pt_cmpR op_eq (pv 1) pe_int (nomark _))
 (pss_one (ps_set (i := 7) sc_L_drawn.nd rfl (.inl rfl) (pe_op op_rep (pe_lst (pa_cons (pe_ix ix_list (pv 7) pe_int (fun _ _ => rfl)) pa_nil)) (pe_callB call_len_seq (by rfl) T.f_len (by decide +kernel) (pa_cons (pv 7) pa_nil)))))
 pss_nil)
 (pss_cons (ps_set (i := 8) sc_L_drawn.nd rfl (.inl rfl) (pe_callB (cr_sum rfl) (by rfl) T.f_sum (by decide +kernel) (pa_cons (pv 7) pa_nil)))
 (pss_one (ps_ret (pe_tup (pa_cons (pe_ca C_spread hr (pa_cons (pe_callTy call_tuple_of (by rfl) T.f_tuple (by decide +kernel) (pa_cons (pv 7) pa_nil)) pa_nil)) (pa_cons (pv 8) (pa_cons (pe_ca C_L_power hr (pa_cons (pv 8) (pa_cons (pv 8) pa_nil))) (pa_cons (pe_ca C_L_whole hr (pa_cons (pv 7) pa_nil)) pa_nil))))))))))))), ?_⟩
    refine ⟨_, rfl, D, C, n, 5, rfl, da, by omega, by omega, by omega, fun way H1 w0 w1 o1 da1 => ?_⟩
    refine ⟨_, rfl, rfl, _, rfl, ite2 (fun c => ?_) (fun c => ?_)⟩
    · refine ⟨_, rfl, D, C, n + 1, 2, rfl, da1, by omega, by omega, by omega, fun z H2 z0 z1 o2 da2 => ?_⟩
      refine ⟨rfl, _, rfl, ite2 (fun c => ?_) (fun c => ?_)⟩
      · refine ⟨_, rfl, by show 12 ≤ sizeLine; rw [sizeLine_eq]; omega, fun p np => ?_⟩
        have s3 := same_new (o := .tup (([1, 2, 3, 4, 6, 8, 12, 27, 36, 60, 997, 1000] : List Int).map V.int)) np
        refine ⟨D, C, p, n + 1 + 1, ([1, 2, 3, 4, 6, 8, 12, 27, 36, 60, 997, 1000] : List Int).map V.int, rfl, da2.same s3, by omega, sqT_new, by show 0 < 12; omega, by show 12 ≤ 1000; omega, fun i x H3 hx o3 da3 => ?_⟩
        obtain ⟨num, hnum, rfl⟩ := map_at hx
        have ⟨n0, n1⟩ := pick_num num (List.mem_of_getElem? hnum)
        have oo := (o1.trans o2).trans ((Ot.of s3).trans o3)
        have dd : DeckAt H3 D C (n + 1 + 1 + 1) := da3
        obtain ⟨nn, rfl⟩ : ∃ nn : Nat, num = nn := ⟨num.toNat, by omega⟩
        refine ⟨_, rfl, nn, rfl, by omega, by omega, fun v d L H4 s4 am st => ?_⟩
        refine ⟨_, rfl, by show 4 ≤ sizeLine; rw [sizeLine_eq]; omega, fun t nt => ?_⟩
        have s5 := same_new (o := .tup [v, V.int 1, V.int nn, V.int 1]) nt
        have k := dw_num (n := nn) (t := 1) (b := 1) (by omega) (by omega) (.inl ⟨rfl, rfl⟩)
        have k' : Dw 1 nn 1 [(1, (nn : Int))] := by rw [if_pos (by omega), if_pos (by omega), show (1 : Int).toNat = 1 from rfl, Int.pow_succ, Int.pow_zero, Int.one_mul] at k; exact k
        exact q t v 1 nn 1 [(1, (nn : Int))] _ ((oo.trans (Ot.of s4)).trans (Ot.of s5)) (((dd.mono (by omega)).same s4).same s5) sqT_new ⟨d, L, am.same s5, st⟩ k'
      · refine ⟨_, rfl, D, C, n + 1 + 1, 1000, rfl, da2, by omega, by omega, by omega, fun z9 H3 z2 z3 o3 da3 => ?_⟩
        refine ⟨_, _, rfl, rfl, ?_⟩
        obtain ⟨num, hnum⟩ : ∃ num, 1 + z9 = num := ⟨_, rfl⟩
        dsimp only
        rw [hnum]
        have n0 : 0 < num := by omega
        have n1 : num ≤ 1000 := by omega
        have oo := (o1.trans o2).trans o3
        have dd : DeckAt H3 D C (n + 1 + 1 + 1) := da3
        obtain ⟨nn, rfl⟩ : ∃ nn : Nat, num = nn := ⟨num.toNat, by omega⟩
        refine ⟨_, rfl, nn, rfl, by omega, by omega, fun v d L H4 s4 am st => ?_⟩
        refine ⟨_, rfl, by show 4 ≤ sizeLine; rw [sizeLine_eq]; omega, fun t nt => ?_⟩
        have s5 := same_new (o := .tup [v, V.int 1, V.int nn, V.int 1]) nt
        have k := dw_num (n := nn) (t := 1) (b := 1) (by omega) (by omega) (.inl ⟨rfl, rfl⟩)
        have k' : Dw 1 nn 1 [(1, (nn : Int))] := by rw [if_pos (by omega), if_pos (by omega), show (1 : Int).toNat = 1 from rfl, Int.pow_succ, Int.pow_zero, Int.one_mul] at k; exact k
        exact q t v 1 nn 1 [(1, (nn : Int))] _ ((oo.trans (Ot.of s4)).trans (Ot.of s5)) (((dd.mono (by omega)).same s4).same s5) sqT_new ⟨d, L, am.same s5, st⟩ k'
    refine ⟨_, rfl, rfl, _, rfl, ite2 (fun c2 => ?_) (fun c2 => ?_)⟩
    · refine ⟨_, rfl, D, C, n + 1, 60, rfl, da1, by omega, by omega, by omega, fun z1 H2 z10 z11 o2 da2 => ?_⟩
      refine ⟨_, _, rfl, rfl, ?_⟩
      refine ⟨_, rfl, D, C, n + 1 + 1, 12, rfl, da2, by omega, by omega, by omega, fun z2 H3 z20 z21 o3 da3 => ?_⟩
      refine ⟨_, _, rfl, rfl, _, _, rfl, ?_⟩
      refine ⟨_, rfl, D, C, n + 1 + 1 + 1, 25, rfl, da3, by omega, by omega, by omega, fun z3 H4 z30 z31 o4 da4 => ?_⟩
      refine ⟨_, _, rfl, rfl, ?_⟩
      obtain ⟨num, hnum⟩ : ∃ num, 1 + z1 = num := ⟨_, rfl⟩
      obtain ⟨by_, hby⟩ : ∃ by_, 1 + z2 = by_ := ⟨_, rfl⟩
      obtain ⟨top, htop⟩ : ∃ top, z3 - 12 = top := ⟨_, rfl⟩
      dsimp only
      rw [hnum, hby, htop]
      have n0 : 0 < num := by omega
      have n6 : num ≤ 60 := by omega
      have b0 : 0 < by_ := by omega
      have b1 : by_ ≤ 12 := by omega
      have t0 : -12 ≤ top := by omega
      have t1 : top ≤ 12 := by omega
      have oo := ((o1.trans o2).trans o3).trans o4
      have dd : DeckAt H4 D C (n + 1 + 1 + 1 + 1) := da4
      have nb : num.natAbs < 2 ^ 10 := by omega
      have kk := dw_num (n := num) (t := top) (b := by_) n0 (by omega) (.inr ⟨n6, t0, t1, b0, b1⟩)
      clear hnum hby htop da da1 da2 da3 da4 o1 o2 o3 o4
      refine ⟨_, rfl, _, _, rfl, rfl, _, rfl, ite2 (fun c => ?_) (fun c => ?_)⟩
      · have c' : 0 ≤ top := of_decide_eq_true c
        refine ⟨_, rfl, _, rfl, num, top.toNat, 10, by show [V.int num, V.int top] = _; rw [show ((top.toNat : Nat) : Int) = top by omega], nb, by omega, by omega, by show 2 ≤ sizeLine; rw [sizeLine_eq]; omega, fun t nt => ?_⟩
        have s5 := same_new (o := .tup [V.int (num ^ top.toNat), V.int 1]) nt
        refine ⟨t, _, rfl, sqT_new, rfl, _, _, rfl, _, [], rfl, rfl, ?_⟩
        generalize upd H4 t (.tup [V.int (num ^ top.toNat), V.int 1]) = H5 at *
        obtain ⟨nn, rfl⟩ : ∃ nn : Nat, num = nn := ⟨num.toNat, by omega⟩
        refine ⟨_, rfl, nn, rfl, by omega, by omega, fun v d L H6 s6 am st => ?_⟩
        have bd1 : Bd 1 (lo1 nn) := bdW (M := [(1, (nn : Int))]) (by omega) (by omega) (fun q hq => by rw [List.mem_singleton.mp hq]; exact ⟨by show (0 : Int) < nn; omega, by show (nn : Int) ≤ 1000; omega⟩) (by
          show (1 : Int).natAbs * (nn : Int).toNat.log2 + 0 ≤ _
          have : (nn : Int).toNat.log2 ≤ 9 := log_le (by omega)
          rw [show (1 : Int).natAbs = 1 from rfl]
          omega)
        refine ⟨_, rfl, _, rfl, v, 1, lo1 nn, top, by_, rfl, ⟨d, L, am, st⟩, bd1, by omega, by omega, by omega, by omega, fun v2 H7 s7 V7 => ?_⟩
        refine ⟨_, rfl, _, rfl, _, rfl, by show 4 ≤ sizeLine; rw [sizeLine_eq]; omega, fun t8 nt8 => ?_⟩
        have s567 := (s5.trans s6).trans s7
        have V8 : Val K H7 v2 by_ (lg [(top, (nn : Int))]) := Val.congr V7 (by omega) fun p => by
          rw [lg_scale]
          show lg [(1, (nn : Int))] p * top * by_ = top * lg [(1, (nn : Int))] p * (1 * by_)
          grind
        have s8 := same_new (o := .tup [v2, V.int by_, V.int (if 0 ≤ top then (nn : Int) ^ top.toNat else 1), V.int (if 0 ≤ top then 1 else (nn : Int) ^ (-top).toNat)]) nt8
        have z := q t8 v2 by_ _ _ [(top, (nn : Int))] _ (oo.trans (Ot.of (s567.trans s8))) ((dd.mono (by omega)).same (s567.trans s8)) sqT_new (V8.same s8) kk
        first
          | (rw [if_pos c', if_pos c'] at z; exact z)
          | (rw [if_neg c', if_neg c'] at z; exact z)
      · have c' : ¬ 0 ≤ top := fun z => c (decide_eq_true z)
        refine ⟨_, rfl, _, rfl, _, rfl, num, (-top).toNat, 10, by show [V.int num, V.int (-top)] = _; rw [show (((-top).toNat : Nat) : Int) = -top by omega], nb, by omega, by omega, by show 2 ≤ sizeLine; rw [sizeLine_eq]; omega, fun t nt => ?_⟩
        have s5 := same_new (o := .tup [V.int 1, V.int (num ^ (-top).toNat)]) nt
        refine ⟨t, _, rfl, sqT_new, rfl, _, _, rfl, _, [], rfl, rfl, ?_⟩
        generalize upd H4 t (.tup [V.int 1, V.int (num ^ (-top).toNat)]) = H5 at *
        obtain ⟨nn, rfl⟩ : ∃ nn : Nat, num = nn := ⟨num.toNat, by omega⟩
        refine ⟨_, rfl, nn, rfl, by omega, by omega, fun v d L H6 s6 am st => ?_⟩
        have bd1 : Bd 1 (lo1 nn) := bdW (M := [(1, (nn : Int))]) (by omega) (by omega) (fun q hq => by rw [List.mem_singleton.mp hq]; exact ⟨by show (0 : Int) < nn; omega, by show (nn : Int) ≤ 1000; omega⟩) (by
          show (1 : Int).natAbs * (nn : Int).toNat.log2 + 0 ≤ _
          have : (nn : Int).toNat.log2 ≤ 9 := log_le (by omega)
          rw [show (1 : Int).natAbs = 1 from rfl]
          omega)
        refine ⟨_, rfl, _, rfl, v, 1, lo1 nn, top, by_, rfl, ⟨d, L, am, st⟩, bd1, by omega, by omega, by omega, by omega, fun v2 H7 s7 V7 => ?_⟩
        refine ⟨_, rfl, _, rfl, _, rfl, by show 4 ≤ sizeLine; rw [sizeLine_eq]; omega, fun t8 nt8 => ?_⟩
        have s567 := (s5.trans s6).trans s7
        have V8 : Val K H7 v2 by_ (lg [(top, (nn : Int))]) := Val.congr V7 (by omega) fun p => by
          rw [lg_scale]
          show lg [(1, (nn : Int))] p * top * by_ = top * lg [(1, (nn : Int))] p * (1 * by_)
          grind
        have s8 := same_new (o := .tup [v2, V.int by_, V.int (if 0 ≤ top then (nn : Int) ^ top.toNat else 1), V.int (if 0 ≤ top then 1 else (nn : Int) ^ (-top).toNat)]) nt8
        have z := q t8 v2 by_ _ _ [(top, (nn : Int))] _ (oo.trans (Ot.of (s567.trans s8))) ((dd.mono (by omega)).same (s567.trans s8)) sqT_new (V8.same s8) kk
        first
          | (rw [if_pos c', if_pos c'] at z; exact z)
          | (rw [if_neg c', if_neg c'] at z; exact z)
    refine ⟨_, rfl, D, C, n + 1, 4, rfl, da1, by omega, by omega, by omega, fun mn H2 k0 k1 o2 da2 => ?_⟩
    obtain ⟨many, em⟩ : ∃ many : Nat, (1 : Int) + mn = many := ⟨(1 + mn).toNat, by omega⟩
    have mp : 0 < many := by omega
    have m4 : many ≤ 4 := by omega
    refine ⟨_, _, rfl, rfl, ?_⟩
    dsimp only
    rw [em]
    refine ⟨many, rfl, by omega, by omega, fun Dl nDl => ?_⟩
    have o12 := o1.trans o2
    have nD1 : Dl ≠ D := by rintro rfl; obtain ⟨_, _, _, h, _⟩ := da2.ex; rw [h] at nDl; cases nDl
    have nD2 : Dl ≠ C := by rintro rfl; obtain ⟨_, _, _, _, h, _⟩ := da2.ex; rw [h] at nDl; cases nDl
    refine lc_range (lo := 0) (n := (many : Int).toNat) (fun i H' => ∃ acc : List Int, Ot D C H H' ∧ DeckAt H' D C (n + 2 + i) ∧ H' Dl = some (.lst (acc.map V.int)) ∧ acc.length = i ∧ ∀ x ∈ acc, 0 < x ∧ x ≤ 5) ?_ ?_ ?_
    · exact ⟨[], o12.trans (Ot.of (same_new nDl)), da2.same (same_new nDl), upd_same, rfl, by simp⟩
    · rintro i H' hi ⟨acc, ot, da', hD, al, ab⟩
      have hi' : i < 4 := by omega
      refine ⟨rfl, ?_⟩
      refine ⟨_, rfl, D, C, n + 2 + i, 5, rfl, da', by omega, by omega, by omega, fun z H3 z0 z1 o3 da3 => ?_⟩
      refine ⟨_, _, rfl, rfl, ?_⟩
      have vb : 0 < 1 + z ∧ 1 + z ≤ 5 := by omega
      have hD3 := o3 _ _ hD nD1 nD2
      refine ⟨_, hD3, by rw [List.length_map]; exact small1000 (by omega), acc ++ [1 + z], ?_, ?_, ?_, ?_, ?_⟩
      · intro b o e h1 h2
        have e2 := o3 _ _ (ot b o e h1 h2) h1 h2
        by_cases h : b = Dl
        · exfalso
          subst h
          have : H b = none := by
            cases hh : H b with
            | none => rfl
            | some o' => have := o12 _ _ hh nD1 nD2; rw [nDl] at this; cases this
          rw [this] at e; cases e
        · rw [upd_ne h]; exact e2
      · obtain ⟨cs, m, k, hh1, hh2, r⟩ := da3.ex
        exact ⟨cs, m, k, by rw [upd_ne (Ne.symm nD1)]; exact hh1, by rw [upd_ne (Ne.symm nD2)]; exact hh2, r⟩
      · rw [upd_same, List.map_append]; rfl
      · rw [List.length_append, al]; rfl
      · intro x hx
        rcases List.mem_append.mp hx with hx | hx
        · exact ab x hx
        · have := List.mem_singleton.mp hx
          rw [this]; exact vb
    · rintro H3 ⟨acc, ot, da3, hD, al, ab⟩
      have l0 : 0 < acc.length := by omega
      have l4 : acc.length ≤ 4 := by omega
      refine ⟨_, rfl, rfl, _, rfl, ite2 (fun c => ?_) (fun c => ?_)⟩
      · obtain ⟨c0, r, rfl⟩ : ∃ c0 r, acc = c0 :: r := by
          cases acc with
          | nil => exact absurd l0 (by decide)
          | cons c0 r => exact ⟨c0, r, rfl⟩
        refine ⟨_, rfl, Dl, _, 0, _, rfl, rfl, .inl (.inl hD), atI_nat (j := 0) rfl, by show 1 ≤ sizeLine; rw [sizeLine_eq]; omega, fun p np => ?_⟩
        have s4 := same_new (o := .lst [V.int c0]) np
        refine ⟨_, rfl, Dl, _, rfl, .inl (.inl (.inl (s4 _ _ hD))), ?_⟩
        refine ⟨p, _, _, rfl, rfl, upd_same, by omega, by rw [List.length_map]; omega, by rw [List.length_map, sizeLine_eq, Int.toNat_natCast]; show 1 * _ ≤ _; omega, fun p2 np2 => ?_⟩
        have ef : (List.replicate (((c0 :: r).map V.int).length : Int).toNat [V.int c0]).flatten = (List.replicate (c0 :: r).length c0).map V.int := by
          rw [Int.toNat_natCast, List.map_replicate, List.length_map]; simp
        rw [ef]
        have s5 := same_new (o := .lst ((List.replicate (c0 :: r).length c0).map V.int)) np2
        have cb : ∀ x ∈ List.replicate (c0 :: r).length c0, 0 < x ∧ x ≤ 5 := fun x hx => by
          rw [(List.mem_replicate.mp hx).2]; exact ab c0 List.mem_cons_self
        have cl : (List.replicate (c0 :: r).length c0).length = (c0 :: r).length := List.length_replicate
        generalize List.replicate (c0 :: r).length c0 = cs at *
        have hL : (upd (upd H3 p (.lst [V.int c0])) p2 (.lst (cs.map V.int))) p2 = some (.lst (cs.map V.int)) := upd_same
        have oo := ot.trans ((Ot.of s4).trans (Ot.of s5))
        have dd := (da3.same s4).same s5
        generalize upd (upd H3 p (.lst [V.int c0])) p2 (.lst (cs.map V.int)) = HH at *
        have z0 : 0 < cs.length := by omega
        have z4 : cs.length ≤ 4 := by omega
        obtain ⟨kk, ct, t20⟩ := dw_spr cb z0 z4
        have N0 := ct.sum_pos
        refine ⟨_, rfl, p2, cs, rfl, .inl (.inl hL), ?_⟩
        refine ⟨_, rfl, p2, _, rfl, .inl ⟨.inl (.inl hL), fun t4 nt4 => ?_⟩⟩
        have x4 := same_new (o := .tup (cs.map V.int)) nt4
        refine ⟨t4, cs, rfl, sqT_new, ct, fun x hx => by have := (cb x hx).2; omega, fun v d L H5 x5 am st => ?_⟩
        have x45 := x4.trans x5
        refine ⟨_, rfl, _, rfl, _, rfl, cs.sum, cs.sum.toNat, 5, by show [V.int cs.sum, V.int cs.sum] = _; rw [show ((cs.sum.toNat : Nat) : Int) = cs.sum by omega], by omega, by omega, by omega, ?_⟩
        refine ⟨_, rfl, p2, cs, rfl, .inl (.inl (x45 _ _ hL)), fun x hx => by have := cb x hx; omega, by omega, fun H6 x6 => ?_⟩
        refine ⟨by show 4 ≤ sizeLine; rw [sizeLine_eq]; omega, fun t8 nt8 => ?_⟩
        have x8 := same_new (o := .tup [v, V.int cs.sum, V.int (cs.sum ^ cs.sum.toNat), V.int (ee cs)]) nt8
        have x68 := x6.trans x8
        exact q t8 v cs.sum _ _ (sprM cs) _ (oo.trans (Ot.of (x45.trans x68))) ((dd.mono (by omega)).same (x45.trans x68)) sqT_new ⟨d, L, am.same x68, st⟩ kk
      · have cb := ab
        have hL := hD
        have oo := ot
        have dd := da3
        have z0 := l0
        have z4 := l4
        generalize acc = cs at *
        obtain ⟨kk, ct, t20⟩ := dw_spr cb z0 z4
        have N0 := ct.sum_pos
        refine ⟨_, rfl, Dl, cs, rfl, .inl (.inl hL), ?_⟩
        refine ⟨_, rfl, Dl, _, rfl, .inl ⟨.inl (.inl hL), fun t4 nt4 => ?_⟩⟩
        have x4 := same_new (o := .tup (cs.map V.int)) nt4
        refine ⟨t4, cs, rfl, sqT_new, ct, fun x hx => by have := (cb x hx).2; omega, fun v d L H5 x5 am st => ?_⟩
        have x45 := x4.trans x5
        refine ⟨_, rfl, _, rfl, _, rfl, cs.sum, cs.sum.toNat, 5, by show [V.int cs.sum, V.int cs.sum] = _; rw [show ((cs.sum.toNat : Nat) : Int) = cs.sum by omega], by omega, by omega, by omega, ?_⟩
        refine ⟨_, rfl, Dl, cs, rfl, .inl (.inl (x45 _ _ hL)), fun x hx => by have := cb x hx; omega, by omega, fun H6 x6 => ?_⟩
        refine ⟨by show 4 ≤ sizeLine; rw [sizeLine_eq]; omega, fun t8 nt8 => ?_⟩
        have x8 := same_new (o := .tup [v, V.int cs.sum, V.int (cs.sum ^ cs.sum.toNat), V.int (ee cs)]) nt8
        have x68 := x6.trans x8
        exact q t8 v cs.sum _ _ (sprM cs) _ (oo.trans (Ot.of (x45.trans x68))) ((dd.mono (by omega)).same (x45.trans x68)) sqT_new ⟨d, L, am.same x68, st⟩ kk
end
end K02

namespace K02
open PySem PySem.Spec PyProof.Rows L2 Ly Am
theorem bdL {M : List (Int × Int)} {B : Int} (hB : 0 < B) (hB2 : B < 2 ^ 40) (hM : ∀ q ∈ M, 0 < q.2 ∧ q.2 ≤ 1000) (hw : wgt M < 2 ^ 40) : Bd B (lg M) :=
  ⟨hB, by omega, fun p h => (lg_key (m := 1000) h hM).2, fun p => by
    have := lg_wgt (fun q hq => (hM q hq).1) p
    omega⟩
/-- an amount that stands for a sum of logarithms, divided, within told sizes -/
structure Wv (K : PySem.W.Frag) (H : Hp) (v : V) (B : Int) (M : List (Int × Int)) (b w : Nat) : Prop where
  val : Val K H v B (lg M)
  B0 : 0 < B
  bl : B ≤ b
  num : ∀ q ∈ M, 0 < q.2 ∧ q.2 ≤ 1000
  wl : wgt M ≤ w
section
variable {K : PySem.W.Frag} {H H' : Hp} {v v1 v2 : V} {B B1 B2 : Int} {M M1 M2 : List (Int × Int)} {b w b1 w1 b2 w2 : Nat}
theorem Wv.bd (h : Wv K H v B M b w) (hb : b < 2 ^ 40) (hw : w < 2 ^ 40) : Bd B (lg M) :=
  bdL h.B0 (by have := h.bl; omega) h.num (by have := h.wl; omega)
theorem Wv.same (s : Same H H') (h : Wv K H v B M b w) : Wv K H' v B M b w := ⟨h.val.same s, h.B0, h.bl, h.num, h.wl⟩
theorem Wv.kp (s : Kp H H') (h : Wv K H v B M b w) : Wv K H' v B M b w := ⟨h.val.kp s, h.B0, h.bl, h.num, h.wl⟩
theorem scl_num {c : Int} (h : ∀ q ∈ M, 0 < q.2 ∧ q.2 ≤ 1000) : ∀ q ∈ scl c M, 0 < q.2 ∧ q.2 ≤ 1000 := fun q hq => by
  obtain ⟨x, hx, rfl⟩ := List.mem_map.mp hq
  exact h x hx
theorem lg_pm (s m1 m2 : Int) (M1 M2 : List (Int × Int)) : (fun p => lg (scl m2 M1) p + s * lg (scl m1 M2) p) = lg (scl m2 M1 ++ scl (s * m1) M2) := by
  funext p
  rw [lg_append, lg_scl, lg_scl, lg_scl]
  grind
theorem Wv.pm (h1 : Wv K H v1 B1 M1 b1 w1) (h2 : Wv K H v2 B2 M2 b2 w2) (s : Int) (hs : s = 1 ∨ s = -1) (hb : b1 * b2 < 2 ^ 40) (hw : b2 * w1 + b1 * w2 < 2 ^ 40) :
    Val K H v1 (B1 * B2) (lg (scl B2 M1)) ∧ Val K H v2 (B1 * B2) (lg (scl B1 M2)) ∧ Bd (B1 * B2) (lg (scl B2 M1)) ∧ Bd (B1 * B2) (lg (scl B1 M2)) ∧
      ∀ v H', Val K H' v (B1 * B2) (fun p => lg (scl B2 M1) p + s * lg (scl B1 M2) p) → Wv K H' v (B1 * B2) (scl B2 M1 ++ scl (s * B1) M2) (b1 * b2) (b2 * w1 + b1 * w2) := by
  have p1 := h1.B0
  have p2 := h2.B0
  have l1 := h1.bl
  have l2 := h2.bl
  have bb : B1 * B2 ≤ ((b1 * b2 : Nat) : Int) := by
    rw [Int.natCast_mul]
    exact Int.mul_le_mul l1 l2 (by omega) (by omega)
  have pp := Int.mul_pos p1 p2
  have e1 : wgt (scl B2 M1) ≤ b2 * w1 := by rw [wgt_scl]; exact Nat.mul_le_mul (by omega) h1.wl
  have e2 : wgt (scl B1 M2) ≤ b1 * w2 := by rw [wgt_scl]; exact Nat.mul_le_mul (by omega) h2.wl
  refine ⟨Val.congr h1.val p1 fun p => ?_, Val.congr h2.val p2 fun p => ?_, bdL pp (by omega) (scl_num h1.num) (by omega), bdL pp (by omega) (scl_num h2.num) (by omega), fun v H' hv => ⟨?_, pp, bb, fun q hq => ?_, ?_⟩⟩
  · rw [lg_scl]; grind
  · rw [lg_scl]; grind
  · rw [← lg_pm]; exact hv
  · rcases List.mem_append.mp hq with h | h
    · exact scl_num h1.num q h
    · exact scl_num h2.num q h
  · rw [wgt_app, wgt_scl (s * B1)]
    have e3 : (s * B1).natAbs * wgt M2 ≤ b1 * w2 := Nat.mul_le_mul (by rcases hs with h | h <;> (rw [h]; omega)) h2.wl
    omega
theorem Wv.tm (h : Wv K H v B M b w) (t c : Int) (tt cc : Nat) (c0 : 0 < c) (hc : c ≤ cc) (ht : t.natAbs ≤ tt) (v' : V) (H' : Hp) (hv : Val K H' v' (B * c) (fun p => lg M p * t)) : Wv K H' v' (B * c) (scl t M) (b * cc) (tt * w) := by
  have p1 := h.B0
  have l1 := h.bl
  refine ⟨?_, Int.mul_pos p1 c0, ?_, scl_num h.num, ?_⟩
  · have e : (fun p => lg M p * t) = lg (scl t M) := by
      funext p
      rw [lg_scl, Int.mul_comm]
    rw [← e]; exact hv
  · rw [Int.natCast_mul]
    exact Int.mul_le_mul l1 hc (by omega) (by omega)
  · rw [wgt_scl]; exact Nat.mul_le_mul ht h.wl
/-- what stands for the same is told alike -/
theorem Wv.at (h : Wv K H v B M b w) {d B0 : Int} {L M0 : List (Int × Int)} (st : St4 d L B0 (lg M0)) (hB0 : 0 < B0) (e : ∀ p, lg M p * B0 = lg M0 p * B) : AmtAt K H v d L := by
  obtain ⟨d', L', am, st'⟩ := h.val
  obtain ⟨g1, g2⟩ := St4.unique st' st h.B0 hB0 e
  rw [← g1, ← g2]; exact am
theorem Dw.wv {m T B : Int} (h : Dw m T B M) (hv : Val K H v m (lg M)) : Wv K H v m M 20 120 := ⟨hv, h.kn.m0, h.m20, h.num, h.wg⟩
theorem Wv.fits {d : Int} {L : List (Int × Int)} (st : St4 d L B (lg M)) (hB : 0 < B) (hl : B ≤ 40000) (num : ∀ q ∈ M, 0 < q.2 ∧ q.2 ≤ 1000) (hw : wgt M ≤ 5000) : Fits 10 1 L :=
  (fitS (n := 10) st hB hl (by omega) (fun q hq => ⟨(num q hq).1, by have := (num q hq).2; omega⟩) (by omega)).1
/-- what is_below of two amounts asks beside their forms -/
theorem below_ok {m1 m2 : Int} {M1 M2 : List (Int × Int)} (p1 : 0 < m1) (p2 : 0 < m2) (l1 : m1 ≤ 20) (l2 : m2 ≤ 20) (n1 : ∀ q ∈ M1, 0 < q.2 ∧ q.2 ≤ 1000) (n2 : ∀ q ∈ M2, 0 < q.2 ∧ q.2 ≤ 1000) (g1 : wgt M1 ≤ 120) (g2 : wgt M2 ≤ 120) :
    Bd (m1 * m2) (fun p => lg (scl m2 M1) p + -1 * lg (scl m1 M2) p) ∧ ∀ d L, St4 d L (m1 * m2) (fun p => lg (scl m2 M1) p + -1 * lg (scl m1 M2) p) → Fits 10 1 L ∧ St4 d L (m1 * m2) (lg (scl m2 M1 ++ scl (-1 * m1) M2)) := by
  rw [lg_pm]
  have pp := Int.mul_pos p1 p2
  have pl : m1 * m2 ≤ 20 * 20 := Int.mul_le_mul l1 l2 (by omega) (by omega)
  have num : ∀ q ∈ scl m2 M1 ++ scl (-1 * m1) M2, 0 < q.2 ∧ q.2 ≤ 1000 := fun q hq => by
    rcases List.mem_append.mp hq with h | h
    · exact scl_num n1 q h
    · exact scl_num n2 q h
  have wl : wgt (scl m2 M1 ++ scl (-1 * m1) M2) ≤ 4800 := by
    rw [wgt_app, wgt_scl, wgt_scl]
    have h1 : m2.natAbs * wgt M1 ≤ 20 * 120 := Nat.mul_le_mul (by omega) g1
    have h2 : (-1 * m1).natAbs * wgt M2 ≤ 20 * 120 := Nat.mul_le_mul (by omega) g2
    omega
  exact ⟨bdL pp (by omega) num (by omega), fun d L st => ⟨Wv.fits st pp (by omega) num (by omega), st⟩⟩
theorem AmOk.told {d : Int} {L : List (Int × Int)} (ok : AmOk d L) : Told 300000 (amtD d L) := amt_told (by have := ok.dl; have := ok.cn.d1; omega) ok.len (fun x hx => ⟨by
    obtain ⟨n, e, _, _⟩ := ok.cn.pr x hx
    have := ok.key x hx
    omega, ok.par x hx⟩)
theorem AmOk.rp {d : Int} {L : List (Int × Int)} (ok : AmOk d L) (h : AmtAt K H v d L) :
    ∃ a, v = .ref a ∧ Dp K H (.ref a) (amtD d L) ∧ (amtD d L).showable = true ∧ (amtD d L).hasDict = false ∧ (amtD d L).depth ≤ 60 ∧ (amtD d L).shown.length ≤ sizeLine := by
  have t := ok.told
  obtain ⟨a, b, rs, e, _⟩ := id h
  exact ⟨a, e, by rw [← e]; exact h.dp, t.show_, t.dict, by have := amt_depth d L; omega, by have := t.len; rw [sizeLine_eq]; omega⟩
end
theorem cmpx {u z T B : Int} {x : Nat} (u0 : 0 < u) (z0 : 0 < z) (T0 : 0 < T) (B0 : 0 < B) (hx : 0 < x) (e : u ^ x * B = T * z ^ x) : (u < z ↔ T < B) ∧ (u = z ↔ T = B) := by
  have up := ipp x u0
  have zp := ipp x z0
  have st : ∀ {a b : Int}, 0 < a → a < b → a ^ x < b ^ x := fun {a b} a0 h => by
    have e1 : a = (a.toNat : Int) := by omega
    have e2 : b = (b.toNat : Int) := by omega
    have := (Nat.pow_lt_pow_iff_left (n := x) (by omega)).mpr (show a.toNat < b.toNat by omega)
    rw [e1, e2]; exact_mod_cast this
  have lt : u < z → T < B := fun h => by
    have h1 := st u0 h
    have h2 : T * z ^ x < B * z ^ x := by rw [← e, Int.mul_comm B]; exact Int.mul_lt_mul_of_pos_right h1 B0
    exact Int.lt_of_mul_lt_mul_right h2 (by omega)
  have gt : z < u → B < T := fun h => by
    have h1 := st z0 h
    have h2 : B * u ^ x < T * u ^ x := by
      rw [Int.mul_comm B, e, Int.mul_comm T, Int.mul_comm T]
      exact Int.mul_lt_mul_of_pos_right h1 T0
    exact Int.lt_of_mul_lt_mul_right h2 (by omega)
  have eq : u = z → T = B := fun h => by
    rw [h, Int.mul_comm] at e
    exact (Int.eq_of_mul_eq_mul_right (by omega) e).symm
  rcases Int.lt_trichotomy u z with h | h | h
  · have := lt h; omega
  · have := eq h; omega
  · have := gt h; omega
theorem sgn_of {L : List (Int × Int)} {d many T B : Int} {f : Int → Int} (st : St4 d L many f) (hm : 0 < many) (hT : 0 < T) (hB : 0 < B) (h : ∀ p : Nat, Pr p → vi p T = vi p B + f p) :
    (up 1 L < dn 1 L ↔ T < B) ∧ (up 1 L = dn 1 L ↔ T = B) ∧ sgn L = ordI T B := by
  have hL : ∀ q ∈ L, 0 < q.1 := fun q hq => by
    obtain ⟨n, e, pn, _⟩ := st.1.pr q hq
    have := pn.pos; omega
  obtain ⟨u0, d0⟩ := upk_pos (k := 1) hL
  have d1 := st.1.d1
  obtain ⟨x, hx⟩ := st.dvd hm
  have ex : many / d = x := by rw [hx]; exact Int.mul_ediv_cancel_left _ (by omega)
  have x0 : 0 < x := by
    apply Int.pos_of_mul_pos_right (a := d) <;> omega
  obtain ⟨c1, c2⟩ := cmpx u0 d0 hT hB (show 0 < (many / d).toNat by omega) (sides_eq st hm hT hB h)
  refine ⟨c1, c2, ?_⟩
  unfold sgn ordI
  rcases Int.lt_trichotomy T B with z | z | z
  · rw [if_neg (by omega), if_neg (by omega), if_neg (by omega), if_pos z]; omega
  · rw [if_pos (by omega), if_neg (by omega), if_neg (by omega)]; omega
  · rw [if_neg (by omega), if_pos (by omega), if_pos z, if_neg (by omega)]; omega
/-- two drawn amounts: the side of the first one, and that of the second one -/
theorem two_vi {m1 m2 T1 B1 T2 B2 : Int} {M1 M2 : List (Int × Int)} (k1 : Kn m1 T1 B1 (lg M1)) (k2 : Kn m2 T2 B2 (lg M2)) (p : Nat) (hp : Pr p) :
    vi p (T1 ^ m2.toNat * B2 ^ m1.toNat) = vi p (T2 ^ m1.toNat * B1 ^ m2.toNat) + lg (scl m2 M1 ++ scl (-1 * m1) M2) p := by
  have a1 := k1.T0
  have a2 := k1.B0
  have a3 := k2.T0
  have a4 := k2.B0
  have a5 := k1.m0
  have a6 := k2.m0
  rw [vi_mul hp (ipp _ a1) (ipp _ a4), vi_mul hp (ipp _ a3) (ipp _ a2), vi_pow hp a1, vi_pow hp a4, vi_pow hp a3, vi_pow hp a2, k1.vi p hp, k2.vi p hp, lg_append, lg_scl, lg_scl, show ((m1.toNat : Nat) : Int) = m1 by omega, show ((m2.toNat : Nat) : Int) = m2 by omega]
  grind
end K02

namespace K02
open PySem PySem.Spec PyProof.Rows L2 Ly Am
section
variable {P : Program} {w : World} {K : PySem.W.Frag} {mg : Str → Option Value} {base : Heap}
theorem no_ne {x y : Str} (h : x = y) : (!decide (V.str x = V.str y)) = false := by rw [h]; simp
theorem rep3 {v1 v2 v3 : V} {d1 d2 d3 : Int} {L1 L2 L3 : List (Int × Int)} {H : Hp} {p : Addr} (ok1 : AmOk d1 L1) (ok2 : AmOk d2 L2) (ok3 : AmOk d3 L3) (h1 : AmtAt K H v1 d1 L1) (h2 : AmtAt K H v2 d2 L2) (h3 : AmtAt K H v3 d3 L3)
    (hp : SqT K H p [v1, v2, v3]) : Dp K H (.ref p) (.tuple [amtD d1 L1, amtD d2 L2, amtD d3 L3]) ∧ (PyData.tuple [amtD d1 L1, amtD d2 L2, amtD d3 L3]).showable = true ∧ (PyData.tuple [amtD d1 L1, amtD d2 L2, amtD d3 L3]).hasDict = false ∧
      (PyData.tuple [amtD d1 L1, amtD d2 L2, amtD d3 L3]).depth ≤ 60 ∧ (PyData.tuple [amtD d1 L1, amtD d2 L2, amtD d3 L3]).shown.length ≤ sizeLine :=
  tup_rp (c := 300000) hp (.cons h1.dp (.cons h2.dp (.cons h3.dp .nil))) (by
    intro d hd
    rcases List.mem_cons.mp hd with e | hd
    · rw [e]; exact ok1.told
    rcases List.mem_cons.mp hd with e | hd
    · rw [e]; exact ok2.told
    rw [List.mem_singleton.mp hd]; exact ok3.told) (by
    intro d hd
    rcases List.mem_cons.mp hd with e | hd
    · rw [e]; have := amt_depth d1 L1; omega
    rcases List.mem_cons.mp hd with e | hd
    · rw [e]; have := amt_depth d2 L2; omega
    rw [List.mem_singleton.mp hd]; have := amt_depth d3 L3; omega) (by show 3 * _ + 4 ≤ _; omega)
def spTwo (K : PySem.W.Frag) : Sp := fun vs H Q _ => ∃ (a b : Addr) (v1 v2 : V) (m1 T1 B1 m2 T2 B2 : Int) (M1 M2 : List (Int × Int)), vs = [.ref a, .ref b] ∧
  SqT K H a [v1, .int m1, .int T1, .int B1] ∧ SqT K H b [v2, .int m2, .int T2, .int B2] ∧ Val K H v1 m1 (lg M1) ∧ Val K H v2 m2 (lg M2) ∧ Dw m1 T1 B1 M1 ∧ Dw m2 T2 B2 M2 ∧ ∀ H', Same H H' → Q (.bl true) H'
theorem ca_L_is_two_right (T : Tx K mg) : CaG P w K mg base 8 "_law_is_two_right" s_L_is_two_right ["_law_one", "_law_other"] (spTwo K) := by
  have C_L_is_sum := ca_L_is_sum (P := P) (w := w) (base := base) T
  have C_L_order := ca_L_order (P := P) (w := w) (base := base) T
  have C_L_is_near_enough := ca_L_is_near_enough (P := P) (w := w) (base := base) T
  have C_plus := ca_plus (P := P) (w := w) (base := base) T
  have C_minus := ca_minus (P := P) (w := w) (base := base) T
  have C_is_below := ca_is_below (P := P) (w := w) (base := base) T
  have C_sign_of := ca_sign_of (P := P) (w := w) (base := base) T
  refine CaG.of (fd_L_is_two_right T) sc_L_is_two_right ?_ ?_
  · rintro vs H Q E ⟨a, b, v1, v2, m1, T1, B1, m2, T2, B2, M1, M2, rfl, _⟩; rfl
  · rintro f cdv A out s H vs Q E hgd hr ⟨a, b, v1, v2, m1, T1, B1, m2, T2, B2, M1, M2, rfl, ha, hb, V1, V2, k1, k2, q⟩
    refine ⟨_, (pss_cons (ps_par (i := 2) (j := 3) rfl sc_L_is_two_right.nd rfl rfl (by decide) rfl rfl (pa_cons (pe_ix ix_tup (pv 0) pe_int (fun _ _ => rfl)) (pa_cons (pe_ix ix_tup (pv 1) pe_int (fun _ _ => rfl)) pa_nil)) rfl)
 (pss_cons (ps_if (PW.pt (pw_or (pt_not (pt_val (pe_ca C_L_is_sum hr (pa_cons (pv 0) (pa_cons (pv 1) (pa_cons (pe_ca C_plus hr (pa_cons (pv 2) (pa_cons (pv 3) pa_nil))) (pa_cons pe_int pa_nil))))))) (pw_or1 (pt_not (pt_val (pe_ca C_L_is_sum hr (pa_cons (pv 0) (pa_cons (pv 1) (pa_cons (pe_ca C_minus hr (pa_cons (pv 2) (pa_cons (pv 3) pa_nil))) (pa_cons (pe_un un_neg pe_int) pa_nil))))))))))
 (pss_one (ps_ret pe_bl))
 pss_nil)
 (pss_cons (ps_if (pt_cmpR op_ne (pe_callB (cr_repr hgd hr.units) (by rfl) T.f_repr (by decide +kernel) (pa_cons (pe_tup (pa_cons (pe_caKr ["other", "one"] C_plus hr (pk_cons (pv 2) (pk_cons (pv 3) pk_nil)) (fun _ _ _ _ _ _ ws hl => match ws, hl with | [_, _], _ => rfl)) (pa_cons (pe_ca C_plus hr (pa_cons (pe_ca C_minus hr (pa_cons (pv 2) (pa_cons (pv 3) pa_nil))) (pa_cons (pv 3) pa_nil))) (pa_cons (pe_caKr ["other", "one"] C_minus hr (pk_cons (pv 3) (pk_cons (pv 2) pk_nil)) (fun _ _ _ _ _ _ ws hl => match ws, hl with | [_, _], _ => rfl)) pa_nil)))) pa_nil)) (pe_callB (cr_repr hgd hr.units) (by rfl) T.f_repr (by decide +kernel) (pa_cons (pe_tup (pa_cons (pe_ca C_plus hr (pa_cons (pv 2) (pa_cons (pv 3) pa_nil))) (pa_cons (pv 2) (pa_cons (pe_ca C_minus hr (pa_cons (pv 2) (pa_cons (pv 3) pa_nil))) pa_nil)))) pa_nil)) (nomark _))
 (pss_one (ps_ret pe_bl))
 pss_nil)
 (pss_cons (ps_if (pt_not (pt_val (pe_ca C_L_is_near_enough hr (pa_cons (pv 2) (pa_cons (pv 3) pa_nil)))))
 (pss_one (ps_ret pe_bl))
 pss_nil)
 (pss_cons (ps_set (i := 4) sc_L_is_two_right.nd rfl (.inl rfl) (pe_ca C_L_order hr (pa_cons (pv 0) (pa_cons (pv 1) pa_nil))))
 (pss_cons (ps_if (pt_cmpR op_ne (pe_callB (cr_repr hgd hr.units) (by rfl) T.f_repr (by decide +kernel) (pa_cons (pe_tup (pa_cons (pe_ca C_is_below hr (pa_cons (pv 2) (pa_cons (pv 3) pa_nil))) (pa_cons (pe_caKr ["other", "one"] C_is_below hr (pk_cons (pv 2) (pk_cons (pv 3) pk_nil)) (fun _ _ _ _ _ _ ws hl => match ws, hl with | [_, _], _ => rfl)) (pa_cons (pe_ca C_sign_of hr (pa_cons (pe_ca C_minus hr (pa_cons (pv 2) (pa_cons (pv 3) pa_nil))) pa_nil)) pa_nil)))) pa_nil)) (pe_callB (cr_repr hgd hr.units) (by rfl) T.f_repr (by decide +kernel) (pa_cons (pe_tup (pa_cons (pe_cmpR op_lt (pv 4) pe_int (nomark _)) (pa_cons (pe_cmpR op_gt (pv 4) pe_int (nomark _)) (pa_cons (pv 4) pa_nil)))) pa_nil)) (nomark _))
 (pss_one (ps_ret pe_bl))
 pss_nil)
 (pss_one (ps_ret (pe_and (pe_cmpR op_eq (pe_cmpR op_eq (pe_callB (cr_repr hgd hr.units) (by rfl) T.f_repr (by decide +kernel) (pa_cons (pv 2) pa_nil)) (pe_callB (cr_repr hgd hr.units) (by rfl) T.f_repr (by decide +kernel) (pa_cons (pv 3) pa_nil)) (nomark _)) (pe_cmpR op_eq (pv 4) pe_int (nomark _)) (nomark _)) (pe_one (pe_cmpR op_eq (pe_callB (cr_repr hgd hr.units) (by rfl) T.f_repr (by decide +kernel) (pa_cons (pe_ca C_minus hr (pa_cons (pv 2) (pa_cons (pv 2) pa_nil))) pa_nil)) (pe_callB (cr_repr hgd hr.units) (by rfl) T.f_repr (by decide +kernel) (pa_cons (pe_tup (pa_cons pe_int (pa_cons (pe_tup pa_nil) pa_nil))) pa_nil)) (nomark _)))))))))))), ?_⟩
    have W1 := k1.wv V1
    have W2 := k2.wv V2
    obtain ⟨d1, L1, am1, st1⟩ := id V1
    obtain ⟨d2, L2, am2, st2⟩ := id V2
    have ok1 := k1.bd.ok st1
    have ok2 := k2.bd.ok st2
    have p1 := W1.B0
    have p2 := W2.B0
    refine ⟨_, rfl, a, _, 0, _, rfl, rfl, ha, atI_nat (j := 0) rfl, _, rfl, b, _, 0, _, rfl, rfl, hb, atI_nat (j := 0) rfl, _, _, rfl, ?_⟩
    obtain ⟨x1, x2, x3, x4, x5⟩ := W1.pm W2 1 (.inl rfl) (by omega) (by omega)
    refine ⟨_, rfl, _, rfl, _, rfl, _, rfl, v1, v2, _, _, _, rfl, x1, x2, x3, x4, fun vp Hp sp hvp => ?_⟩
    have Wp := x5 vp Hp hvp
    have numM : ∀ q ∈ M1 ++ M2, 0 < q.2 ∧ q.2 ≤ 1000 := fun q hq => by
      rcases List.mem_append.mp hq with h | h
      · exact k1.num q h
      · exact k2.num q h
    have sz : 10 * (2 * (m2.natAbs * wgt M1 + m1.natAbs * wgt M2)) ≤ 100000 := by
      have g1 := k1.m20
      have g2 := k2.m20
      have h1 : m2.natAbs * wgt M1 ≤ 20 * 120 := Nat.mul_le_mul (by omega) k1.wg
      have h2 : m1.natAbs * wgt M2 ≤ 20 * 120 := Nat.mul_le_mul (by omega) k2.wg
      omega
    refine ⟨a, b, v1, v2, vp, m1, T1, B1, m2, T2, B2, M1, M2, 1, rfl, SqT.same sp ha, SqT.same sp hb, k1.kn, k2.kn, .inl rfl, numM, sz, Wp.val, fun H2 s2 => ⟨true, rfl, iteF ?_⟩⟩
    have s02 := sp.trans s2
    clear x1 x2 x3 x4 x5
    obtain ⟨x1, x2, x3, x4, x5⟩ := (W1.same s02).pm (W2.same s02) (-1) (.inr rfl) (by omega) (by omega)
    refine ⟨_, rfl, _, rfl, _, rfl, _, rfl, v1, v2, _, _, _, rfl, x1, x2, x3, x4, fun vm Hm sm hvm => ?_⟩
    have Wm := x5 vm Hm hvm
    have s0m := s02.trans sm
    refine ⟨_, rfl, a, b, v1, v2, vm, m1, T1, B1, m2, T2, B2, M1, M2, -1, rfl, SqT.same s0m ha, SqT.same s0m hb, k1.kn, k2.kn, .inr rfl, numM, sz, Wm.val, fun H4 s4 => ⟨true, rfl, iteF ?_⟩⟩
    have s04 := s0m.trans s4
    -- the sum and the difference in their one form
    obtain ⟨dp, Lp, amp, stp⟩ := id Wp.val
    obtain ⟨dm, Lm, amm, stm⟩ := id Wm.val
    have okp := (Wp.bd (by omega) (by omega)).ok stp
    have okm := (Wm.bd (by omega) (by omega)).ok stm
    have pp := Wp.B0
    clear x1 x2 x3 x4 x5 hvp hvm amp amm
    -- repr of both threes
    obtain ⟨x1, x2, x3, x4, x5⟩ := (W2.same s04).pm (W1.same s04) 1 (.inl rfl) (by omega) (by omega)
    refine ⟨_, rfl, _, rfl, v2, v1, _, _, _, rfl, x1, x2, x3, x4, fun va H5 s5 hva => ?_⟩
    have Wa := x5 va H5 hva
    have s05 := s04.trans s5
    clear x1 x2 x3 x4 x5
    obtain ⟨x1, x2, x3, x4, x5⟩ := (W1.same s05).pm (W2.same s05) (-1) (.inr rfl) (by omega) (by omega)
    refine ⟨_, rfl, _, rfl, v1, v2, _, _, _, rfl, x1, x2, x3, x4, fun vb H6 s6 hvb => ?_⟩
    have Wb := x5 vb H6 hvb
    have s06 := s05.trans s6
    clear x1 x2 x3 x4 x5
    obtain ⟨x1, x2, x3, x4, x5⟩ := Wb.pm (W2.same s06) 1 (.inl rfl) (by omega) (by omega)
    refine ⟨_, rfl, vb, v2, _, _, _, rfl, x1, x2, x3, x4, fun vc H7 s7 hvc => ?_⟩
    have Wc := x5 vc H7 hvc
    have s07 := s06.trans s7
    clear x1 x2 x3 x4 x5
    obtain ⟨x1, x2, x3, x4, x5⟩ := (W1.same s07).pm (W2.same s07) (-1) (.inr rfl) (by omega) (by omega)
    refine ⟨_, rfl, _, rfl, v1, v2, _, _, _, rfl, x1, x2, x3, x4, fun vd H8 s8 hvd => ?_⟩
    have Wd := x5 vd H8 hvd
    have s08 := s07.trans s8
    clear x1 x2 x3 x4 x5
    have z3' : 3 ≤ sizeLine := by rw [sizeLine_eq]; omega
    refine ⟨z3', fun t1 nt1 => ?_⟩
    have s9 := same_new (o := .tup [va, vc, vd]) nt1
    have ama : AmtAt K (upd H8 t1 (.tup [va, vc, vd])) va dp Lp := (Wa.same (((s6.trans s7).trans s8).trans s9)).at stp pp fun p => by
      rw [lg_append, lg_append, lg_scl, lg_scl, lg_scl, lg_scl]; grind
    have amc : AmtAt K (upd H8 t1 (.tup [va, vc, vd])) vc d1 L1 := (Wc.same (s8.trans s9)).at st1 p1 fun p => by
      rw [lg_append, lg_scl, lg_scl, lg_append, lg_scl, lg_scl]; grind
    have amd : AmtAt K (upd H8 t1 (.tup [va, vc, vd])) vd dm Lm := (Wd.same s9).at stm pp fun p => rfl
    obtain ⟨r1, r2, r3, r4, r5⟩ := rep3 okp ok1 okm ama amc amd (sqT_new (p := t1))
    refine ⟨t1, _, rfl, r1, r2, r3, r4, r5, ?_⟩
    have s09 := s08.trans s9
    clear Wa Wb Wc Wd hva hvb hvc hvd ama amc amd r1 r2 r3 r4 r5 s05 s06 s07 s5 s6 s7 s8
    generalize upd H8 t1 (.tup [va, vc, vd]) = H9 at *
    obtain ⟨x1, x2, x3, x4, x5⟩ := (W1.same s09).pm (W2.same s09) 1 (.inl rfl) (by omega) (by omega)
    refine ⟨_, rfl, _, rfl, v1, v2, _, _, _, rfl, x1, x2, x3, x4, fun ve H10 s10 hve => ?_⟩
    have We := x5 ve H10 hve
    have s0_10 := s09.trans s10
    clear x1 x2 x3 x4 x5
    obtain ⟨x1, x2, x3, x4, x5⟩ := (W1.same s0_10).pm (W2.same s0_10) (-1) (.inr rfl) (by omega) (by omega)
    refine ⟨_, rfl, _, rfl, _, rfl, v1, v2, _, _, _, rfl, x1, x2, x3, x4, fun vf H11 s11 hvf => ?_⟩
    have Wf := x5 vf H11 hvf
    have s0_11 := s0_10.trans s11
    clear x1 x2 x3 x4 x5
    refine ⟨z3', fun t2 nt2 => ?_⟩
    have s12 := same_new (o := .tup [ve, v1, vf]) nt2
    have ame : AmtAt K (upd H11 t2 (.tup [ve, v1, vf])) ve dp Lp := (We.same (s11.trans s12)).at stp pp fun p => rfl
    have amf : AmtAt K (upd H11 t2 (.tup [ve, v1, vf])) vf dm Lm := (Wf.same s12).at stm pp fun p => rfl
    have am1' := am1.same (s0_11.trans s12)
    obtain ⟨r1, r2, r3, r4, r5⟩ := rep3 okp ok1 okm ame am1' amf (sqT_new (p := t2))
    refine ⟨t2, _, rfl, r1, r2, r3, r4, r5, rfl, _, rfl, ?_⟩
    rw [no_ne rfl]
    refine iteF ?_
    have s0_12 := s0_11.trans s12
    clear We Wf hve hvf ame am1' amf r1 r2 r3 r4 r5 s0_10 s0_11 s10 s11
    generalize upd H11 t2 (.tup [ve, v1, vf]) = H12 at *
    have fk1 := few_keys st1 p1 fun q hq => (k1.num q hq).1
    have fk2 := few_keys st2 p2 fun q hq => (k2.num q hq).1
    refine ⟨_, rfl, _, rfl, v1, v2, d1, d2, L1, L2, rfl, am1.same s0_12, am2.same s0_12, ok1, ok2, by have := k1.one; have := k2.one; omega, fun bb H13 s13 => ?_⟩
    have s0_13 := s0_12.trans s13
    refine ⟨bb, rfl, ite2 (fun _ => q _ s0_13) (fun _ => ?_)⟩
    refine ⟨_, rfl, _, rfl, a, b, v1, v2, m1, T1, B1, m2, T2, B2, lg M1, lg M2, rfl, SqT.same s0_13 ha, SqT.same s0_13 hb, k1.kn, k2.kn, fun H14 s14 => ?_⟩
    have s0_14 := s0_13.trans s14
    have X0 : 0 < T1 ^ m2.toNat * B2 ^ m1.toNat := Int.mul_pos (ipp _ k1.kn.T0) (ipp _ k2.kn.B0)
    have Y0 : 0 < T2 ^ m1.toNat * B1 ^ m2.toNat := Int.mul_pos (ipp _ k2.kn.T0) (ipp _ k1.kn.B0)
    have tv1 := two_vi k1.kn k2.kn
    have tv2 := two_vi k2.kn k1.kn
    generalize T1 ^ m2.toNat * B2 ^ m1.toNat = X at *
    generalize T2 ^ m1.toNat * B1 ^ m2.toNat = Y at *
    obtain ⟨z1, z2⟩ := below_ok p1 p2 k1.m20 k2.m20 k1.num k2.num k1.wg k2.wg
    obtain ⟨z3, z4⟩ := below_ok p2 p1 k2.m20 k1.m20 k2.num k1.num k2.wg k1.wg
    obtain ⟨x1, x2, x3, x4, x5⟩ := (W1.same s0_14).pm (W2.same s0_14) (-1) (.inr rfl) (by omega) (by omega)
    refine ⟨_, rfl, _, rfl, v1, v2, _, _, _, 10, rfl, x1, x2, x3, x4, z1, fun d L st => (z2 d L st).1, fun d5 L5 H15 s15 st5 => ?_⟩
    have e1 : decide (up 1 L5 < dn 1 L5) = decide (X < Y) := decide_eq_decide.mpr (sgn_of (z2 d5 L5 st5).2 pp X0 Y0 tv1).1
    rw [e1]
    have s0_15 := s0_14.trans s15
    clear x1 x2 x3 x4 x5
    obtain ⟨x1, x2, x3, x4, x5⟩ := (W2.same s0_15).pm (W1.same s0_15) (-1) (.inr rfl) (by omega) (by omega)
    refine ⟨_, rfl, _, rfl, v2, v1, _, _, _, 10, rfl, x1, x2, x3, x4, z3, fun d L st => (z4 d L st).1, fun d6 L6 H16 s16 st6 => ?_⟩
    have e2 : decide (up 1 L6 < dn 1 L6) = decide (Y < X) := decide_eq_decide.mpr (sgn_of (z4 d6 L6 st6).2 (Int.mul_pos p2 p1) Y0 X0 tv2).1
    rw [e2]
    have s0_16 := s0_15.trans s16
    clear x1 x2 x3 x4 x5
    obtain ⟨x1, x2, x3, x4, x5⟩ := (W1.same s0_16).pm (W2.same s0_16) (-1) (.inr rfl) (by omega) (by omega)
    refine ⟨_, rfl, _, rfl, v1, v2, _, _, _, rfl, x1, x2, x3, x4, fun vg H17 s17 hvg => ?_⟩
    have Wg := x5 vg H17 hvg
    have amg := Wg.at stm pp fun p => rfl
    refine ⟨vg, dm, Lm, 10, rfl, amg, okm, (z2 dm Lm (by rw [lg_pm]; exact stm)).1, fun H18 s18 => ?_⟩
    rw [(sgn_of stm pp X0 Y0 tv1).2.2]
    have s0_18 := s0_16.trans (s17.trans s18)
    clear x1 x2 x3 x4 x5 Wg amg hvg
    refine ⟨z3', fun t3 nt3 => ?_⟩
    have s19 := same_new (o := .tup [V.bl (decide (X < Y)), V.bl (decide (Y < X)), V.int (ordI X Y)]) nt3
    have oi : (ordI X Y).natAbs < 2 ^ 64 := by unfold ordI; split <;> split <;> omega
    have dt : ∀ (H : _root_.L2.Hp) (p : Addr) (b1 b2 : Bool), SqT K H p [V.bl b1, V.bl b2, V.int (ordI X Y)] → Dp K H (.ref p) (.tuple [.bool b1, .bool b2, .int (ordI X Y)]) ∧ (PyData.tuple [.bool b1, .bool b2, .int (ordI X Y)]).showable = true ∧ (PyData.tuple [.bool b1, .bool b2, .int (ordI X Y)]).hasDict = false ∧
        (PyData.tuple [.bool b1, .bool b2, .int (ordI X Y)]).depth ≤ 60 ∧ (PyData.tuple [.bool b1, .bool b2, .int (ordI X Y)]).shown.length ≤ sizeLine := fun H p b1 b2 hp =>
      tup_rp (c := 66) hp (.cons (.bl _) (.cons (.bl _) (.cons (.int _) .nil))) (by
        intro d hd
        rcases List.mem_cons.mp hd with e | hd
        · rw [e]; exact told_bool _
        rcases List.mem_cons.mp hd with e | hd
        · rw [e]; exact told_bool _
        rw [List.mem_singleton.mp hd]; exact told_int oi) (by
        intro d hd
        rcases List.mem_cons.mp hd with e | hd
        · rw [e]; simp [PyData.depth]
        rcases List.mem_cons.mp hd with e | hd
        · rw [e]; simp [PyData.depth]
        rw [List.mem_singleton.mp hd]; simp [PyData.depth]) (by show 3 * _ + 4 ≤ _; omega)
    obtain ⟨r1, r2, r3, r4, r5⟩ := dt _ t3 (decide (X < Y)) (decide (Y < X)) (sqT_new (p := t3) (H := H18))
    refine ⟨t3, _, rfl, r1, r2, r3, r4, r5, ?_⟩
    have s0_19 := s0_18.trans s19
    clear r1 r2 r3 r4 r5
    generalize upd H18 t3 (.tup [V.bl (decide (X < Y)), V.bl (decide (Y < X)), V.int (ordI X Y)]) = H19 at *
    refine ⟨_, rfl, _, _, rfl, rfl, _, rfl, _, _, rfl, rfl, _, rfl, z3', fun t4 nt4 => ?_⟩
    have g1 : decide (ordI X Y < 0) = decide (X < Y) := decide_eq_decide.mpr (by unfold ordI; split <;> split <;> omega)
    have g2 : decide (0 < ordI X Y) = decide (Y < X) := decide_eq_decide.mpr (by unfold ordI; split <;> split <;> omega)
    dsimp only
    rw [g1, g2]
    have s20 := same_new (o := .tup [V.bl (decide (X < Y)), V.bl (decide (Y < X)), V.int (ordI X Y)]) nt4
    obtain ⟨r1, r2, r3, r4, r5⟩ := dt _ t4 (decide (X < Y)) (decide (Y < X)) (sqT_new (p := t4) (H := H19))
    refine ⟨t4, _, rfl, r1, r2, r3, r4, r5, rfl, _, rfl, ?_⟩
    rw [no_ne rfl]
    refine iteF ?_
    have s0_20 := s0_19.trans s20
    clear r1 r2 r3 r4 r5
    generalize upd H19 t4 (.tup [V.bl (decide (X < Y)), V.bl (decide (Y < X)), V.int (ordI X Y)]) = H20 at *
    obtain ⟨ra1, re1, rb1, rc1, rd1, rf1, rg1⟩ := ok1.rp (am1.same s0_20)
    obtain ⟨ra2, re2, rb2, rc2, rd2, rf2, rg2⟩ := ok2.rp (am2.same s0_20)
    refine ⟨_, rfl, ra1, _, by rw [re1], rb1, rc1, rd1, rf1, rg1, ?_⟩
    refine ⟨_, rfl, ra2, _, by rw [re2], rb2, rc2, rd2, rf2, rg2, ?_⟩
    have eqXY : (amtD d1 L1).shown = (amtD d2 L2).shown ↔ X = Y := by
      rw [← (sgn_of stm pp X0 Y0 tv1).2.1]
      constructor
      · intro h
        obtain ⟨e1, e2⟩ := amt_inj h
        have sd : St4 d1 L1 m2 (lg M2) := by rw [e1, e2]; exact st2
        have zero : ∀ p, lg (scl m2 M1 ++ scl (-1 * m1) M2) p = 0 := fun p => by
          rw [lg_append, lg_scl, lg_scl]
          have h1 := st1.2 p
          have h2 := sd.2 p
          have dd := st1.1.d1
          refine Int.eq_of_mul_eq_mul_right (a := d1) (by omega) ?_
          grind
        have st0 : St4 1 [] 1 (lg []) := ⟨⟨by omega, .nil, by simp, by simp, rfl⟩, fun p => by rw [lg_nil]; rfl⟩
        obtain ⟨_, e4⟩ := St4.unique stm st0 pp (by omega) fun p => by rw [zero, lg_nil]; simp
        rw [e4]; rfl
      · intro h
        have hXY : X = Y := (sgn_of stm pp X0 Y0 tv1).2.1.mp h
        have zero : ∀ p : Nat, Pr p → lg (scl m2 M1 ++ scl (-1 * m1) M2) p = 0 := fun p hp => by
          have := tv1 p hp
          rw [hXY] at this; omega
        obtain ⟨e1, e2⟩ := St4.unique st1 st2 p1 p2 fun p => by
          by_cases hp : ∃ n : Nat, p = n ∧ Pr n
          · obtain ⟨n, rfl, pr⟩ := hp
            have := zero n pr
            rw [lg_append, lg_scl, lg_scl] at this
            grind
          · rw [lg_no _ hp, lg_no _ hp]; simp
        rw [e1, e2]
    have hc : decide (V.bl (decide (V.str (amtD d1 L1).shown = V.str (amtD d2 L2).shown)) = V.bl (decide (V.int (ordI X Y) = V.int 0))) = true := by
      refine decide_eq_true (congrArg V.bl (decide_eq_decide.mpr ⟨fun h => congrArg V.int ?_, fun h => congrArg V.str (eqXY.mpr ?_)⟩))
      · have := eqXY.mp (V.str.inj h)
        rw [this]; unfold ordI; simp
      · have := V.int.inj h
        unfold ordI at this
        split at this <;> split at this <;> omega
    refine ⟨rfl, _, rfl, rfl, rfl, _, rfl, ?_⟩
    rw [if_pos hc]
    obtain ⟨x1, x2, x3, x4, x5⟩ := (W1.same s0_20).pm (W1.same s0_20) (-1) (.inr rfl) (by omega) (by omega)
    refine ⟨_, rfl, _, rfl, v1, v1, _, _, _, rfl, x1, x2, x3, x4, fun vz H21 s21 hvz => ?_⟩
    have Wz := x5 vz H21 hvz
    have st0 : St4 1 [] 1 (lg []) := ⟨⟨by omega, .nil, by simp, by simp, rfl⟩, fun p => by rw [lg_nil]; rfl⟩
    have ok0 : AmOk 1 [] := ⟨st0.1, by omega, by simp, by simp⟩
    have amz := Wz.at st0 (by omega) fun p => by
      rw [lg_append, lg_scl, lg_scl, lg_nil]; grind
    obtain ⟨ra1, re1, rb1, rc1, rd1, rf1, rg1⟩ := ok0.rp amz
    refine ⟨ra1, _, by rw [re1], rb1, rc1, rd1, rf1, rg1, ?_⟩
    refine ⟨by show 0 ≤ sizeLine; omega, fun p5 np5 => ⟨by show 2 ≤ sizeLine; rw [sizeLine_eq]; omega, fun p6 np6 => ?_⟩⟩
    have u5 := same_new (o := .tup []) np5
    have u6 := same_new (o := .tup [V.int 1, V.ref p5]) np6
    have am0 : AmtAt K (upd (upd H21 p5 (.tup [])) p6 (.tup [V.int 1, V.ref p5])) (.ref p6) 1 [] := ⟨p6, p5, [], rfl, sqT_new, SqT.same u6 sqT_new, .nil⟩
    obtain ⟨rb2, re2, rb3, rc2, rd2, rf2, rg2⟩ := ok0.rp am0
    refine ⟨rb2, _, by rw [re2], rb3, rc2, rd2, rf2, rg2, rfl, ?_⟩
    have z := q _ (s0_20.trans (s21.trans (u5.trans u6)))
    have e : decide (V.str (amtD 1 []).shown = V.str (amtD 1 []).shown) = true := decide_eq_true rfl
    rw [e]
    exact z
end
end K02

namespace K02
open PySem PySem.Spec PyProof.Rows L2 Ly Am
theorem updn_pow (k : Nat) : ∀ L : List (Int × Int), up k L = up 1 L ^ k ∧ dn k L = dn 1 L ^ k
  | [] => by
    have : ∀ k : Nat, (1 : Int) ^ k = 1 := fun k => Int.one_pow
    exact ⟨(this k).symm, (this k).symm⟩
  | q :: r => by
    obtain ⟨h1, h2⟩ := updn_pow k r
    have e : ∀ c : Nat, q.1 ^ (k * c) = (q.1 ^ (1 * c)) ^ k := fun c => by rw [Nat.one_mul, ← Int.pow_mul, Nat.mul_comm]
    refine ⟨?_, ?_⟩
    · show (if 0 < q.2 then q.1 ^ (k * q.2.natAbs) else 1) * up k r = ((if 0 < q.2 then q.1 ^ (1 * q.2.natAbs) else 1) * up 1 r) ^ k
      rw [Int.mul_pow, h1]
      split
      · rw [e]
      · rw [Int.one_pow]
    · show (if 0 < q.2 then 1 else q.1 ^ (k * q.2.natAbs)) * dn k r = ((if 0 < q.2 then 1 else q.1 ^ (1 * q.2.natAbs)) * dn 1 r) ^ k
      rw [Int.mul_pow, h2]
      split
      · rw [Int.one_pow]
      · rw [e]
theorem le2_step {s a b : Int} (ha : 0 < a) (hb : 0 < b) (h : le2 (s + 1) a b) : le2 s a b := by
  unfold le2 at *
  by_cases c : 0 ≤ s
  · rw [show (s + 1).toNat = s.toNat + 1 by omega, show (-(s + 1)).toNat = 0 by omega] at h
    rw [show (-s).toNat = 0 by omega]
    rw [Int.pow_succ] at h
    have := Int.mul_pos hb (ipp s.toNat (show (0 : Int) < 2 by omega))
    rw [← Int.mul_assoc] at h
    omega
  · rw [show (s + 1).toNat = 0 by omega] at h
    rw [show s.toNat = 0 by omega, show (-s).toNat = (-(s + 1)).toNat + 1 by omega, Int.pow_succ, ← Int.mul_assoc]
    have := Int.mul_pos ha (ipp (-(s + 1)).toNat (show (0 : Int) < 2 by omega))
    omega
theorem le2_down {a b : Int} (ha : 0 < a) (hb : 0 < b) : ∀ (n : Nat) {s : Int}, le2 (s + n) a b → le2 s a b
  | 0, s, h => by simpa using h
  | n + 1, s, h => le2_step ha hb (le2_down ha hb n (s := s + 1) (by rw [show s + 1 + (n : Int) = s + ((n + 1 : Nat) : Int) by omega]; exact h))
theorem le2_iff {e s a b : Int} (ha : 0 < a) (hb : 0 < b) (h1 : le2 e a b) (h2 : ¬ le2 (e + 1) a b) : le2 s a b ↔ s ≤ e := by
  constructor
  · intro h
    apply Classical.byContradiction
    intro c
    apply h2
    exact le2_down ha hb (s - (e + 1)).toNat (by rw [show e + 1 + (((s - (e + 1)).toNat : Nat) : Int) = s by omega]; exact h)
  · intro h
    exact le2_down ha hb (e - s).toNat (by rw [show s + (((e - s).toNat : Nat) : Int) = e by omega]; exact h1)
theorem pow_le_iff {a b : Int} {x : Nat} (ha : 0 < a) (hb : 0 < b) (hx : 0 < x) : a ^ x ≤ b ^ x ↔ a ≤ b := by
  have e1 : a = (a.toNat : Int) := by omega
  have e2 : b = (b.toNat : Int) := by omega
  have := Nat.pow_le_pow_iff_left (a := a.toNat) (b := b.toNat) (n := x) (by omega)
  rw [e1, e2]
  exact_mod_cast this
theorem steps_core {U W T B : Int} (hU : 0 < U) (hW : 0 < W) (hT : 0 < T) (hB : 0 < B) {x k d p n : Nat} (hx : 0 < x) (e : U ^ x * B = T * W ^ x) :
    W ^ k * 2 ^ (p * d) ≤ U ^ k * 2 ^ (n * d) ↔ 2 ^ (p * (d * x)) * B ^ k ≤ 2 ^ (n * (d * x)) * T ^ k := by
  have two : (0 : Int) < 2 := by omega
  have a0 := Int.mul_pos (ipp k hW) (ipp (p * d) two)
  have b0 := Int.mul_pos (ipp k hU) (ipp (n * d) two)
  rw [← pow_le_iff a0 b0 hx]
  have Bk := ipp k hB
  have Wk : 0 < (W ^ x) ^ k := ipp k (ipp x hW)
  have e1 : (W ^ k * 2 ^ (p * d)) ^ x * B ^ k = (2 ^ (p * (d * x)) * B ^ k) * (W ^ x) ^ k := by
    rw [Int.mul_pow, ← Int.pow_mul, ← Int.pow_mul, ← Int.pow_mul, Nat.mul_comm k x, Nat.mul_assoc]
    grind
  have e2 : (U ^ k * 2 ^ (n * d)) ^ x * B ^ k = (2 ^ (n * (d * x)) * T ^ k) * (W ^ x) ^ k := by
    have e3 : (U ^ x) ^ k * B ^ k = T ^ k * (W ^ x) ^ k := by rw [← Int.mul_pow, e, Int.mul_pow]
    have e4 : (U ^ k) ^ x = (U ^ x) ^ k := by rw [← Int.pow_mul, ← Int.pow_mul, Nat.mul_comm]
    rw [Int.mul_pow, e4]
    clear e4
    generalize (U ^ x) ^ k = A at *
    generalize (W ^ x) ^ k = C at *
    rw [← Int.pow_mul, Nat.mul_assoc]
    generalize (2 : Int) ^ (n * (d * x)) = D at *
    grind
  constructor
  · intro h
    have := Int.mul_le_mul_of_nonneg_right h (Int.le_of_lt Bk)
    rw [e1, e2] at this
    exact Int.le_of_mul_le_mul_right this Wk
  · intro h
    have := Int.mul_le_mul_of_nonneg_right h (Int.le_of_lt Wk)
    rw [← e1, ← e2] at this
    exact Int.le_of_mul_le_mul_right this Bk
/-- when s doublings fit below k times an amount -/
theorem steps_fit {L M : List (Int × Int)} {d m T B e : Int} {k : Nat} (st : St4 d L m (lg M)) (kn : Kn m T B (lg M)) (h1 : le2 e (up k L) (dn k L)) (h2 : ¬ le2 (e + 1) (up k L) (dn k L)) (s : Int) :
    2 ^ (s.toNat * m.toNat) * B ^ k ≤ 2 ^ ((-s).toNat * m.toNat) * T ^ k ↔ s ≤ e / d := by
  have hL : ∀ q ∈ L, 0 < q.1 := fun q hq => by
    obtain ⟨n, e, pn, _⟩ := st.1.pr q hq
    have := pn.pos; omega
  obtain ⟨u0, d0⟩ := upk_pos (k := 1) hL
  obtain ⟨uk, dk⟩ := upk_pos (k := k) hL
  have dp := st.1.d1
  have m0 := kn.m0
  obtain ⟨x, hx⟩ := st.dvd m0
  have ex : m / d = x := by rw [hx]; exact Int.mul_ediv_cancel_left _ (by omega)
  have x0 : 0 < x := by
    apply Int.pos_of_mul_pos_right (a := d) <;> omega
  have em : m.toNat = d.toNat * (m / d).toNat := by
    rw [ex]
    have : ((d.toNat * x.toNat : Nat) : Int) = d * x := by rw [Int.natCast_mul]; congr 1 <;> omega
    rw [← hx] at this; omega
  have core := steps_core u0 d0 kn.T0 kn.B0 (k := k) (d := d.toNat) (p := s.toNat) (n := (-s).toNat) (show 0 < (m / d).toNat by omega) (sides_eq st m0 kn.T0 kn.B0 kn.vi)
  rw [em, ← core, ← (updn_pow k L).1, ← (updn_pow k L).2, Int.le_ediv_iff_mul_le dp, ← le2_iff uk dk h1 h2]
  unfold le2
  have t1 : (s * d).toNat = s.toNat * d.toNat := by
    by_cases c : 0 ≤ s
    · have : ((s.toNat * d.toNat : Nat) : Int) = s * d := by rw [Int.natCast_mul]; congr 1 <;> omega
      omega
    · have : s * d ≤ 0 := Int.mul_nonpos_of_nonpos_of_nonneg (by omega) (by omega)
      rw [show s.toNat = 0 by omega, Nat.zero_mul]; omega
  have t2 : (-(s * d)).toNat = (-s).toNat * d.toNat := by
    rw [← Int.neg_mul]
    by_cases c : 0 ≤ -s
    · have : (((-s).toNat * d.toNat : Nat) : Int) = -s * d := by rw [Int.natCast_mul]; congr 1 <;> omega
      omega
    · have : -s * d ≤ 0 := Int.mul_nonpos_of_nonpos_of_nonneg (by omega) (by omega)
      rw [show (-s).toNat = 0 by omega, Nat.zero_mul]; omega
  rw [t1, t2]
/-- how great the steps can be -/
theorem steps_size {L M : List (Int × Int)} {d m T B e : Int} {k : Nat} (st : St4 d L m (lg M)) (dw : Dw m T B M) (h1 : le2 e (up k L) (dn k L)) (h2 : ¬ le2 (e + 1) (up k L) (dn k L)) (hk : k ≤ 20) :
    (e / d).natAbs * m.toNat ≤ 30000 := by
  have hL : ∀ q ∈ L, 0 < q.1 := fun q hq => by
    obtain ⟨n, e, pn, _⟩ := st.1.pr q hq
    have := pn.pos; omega
  obtain ⟨uk, dk⟩ := upk_pos (k := k) hL
  have dp := st.1.d1
  have m0 := dw.kn.m0
  have ok := dw.bd.ok st
  have ba : ∀ q ∈ L, q.1.natAbs < 2 ^ 10 := fun q hq => by
    have := hL q hq
    have := ok.key q hq
    omega
  have ub := up_bits (k := k) ba
  have db := dn_bits (k := k) ba
  have cn := cost_near st m0 fun q hq => (dw.num q hq).1
  have ll := len_cost st.1.nz
  have wg := dw.wg
  have m20 := dw.m20
  generalize hN : 10 * (k * cost L) + L.length + 1 = N at *
  have pe : ∀ (z : Int) (j : Nat), 0 < z → z.natAbs < 2 ^ N → (2 : Int) ^ j ≤ z → j ≤ N := fun z j z0 hz h => by
    apply Classical.byContradiction
    intro c
    have g1 : 2 ^ N ≤ 2 ^ j := Nat.pow_le_pow_right (by omega) (by omega)
    have g2 : ((2 ^ j : Nat) : Int) ≤ z := by simpa using h
    omega
  have eb : e.natAbs ≤ N + 1 := by
    unfold le2 at h1 h2
    by_cases c : 0 ≤ e
    · rw [show (-e).toNat = 0 by omega, Int.pow_zero, Int.mul_one] at h1
      have g := ipp e.toNat (show (0 : Int) < 2 by omega)
      have : (2 : Int) ^ e.toNat ≤ dn k L * 2 ^ e.toNat := by
        have := Int.mul_le_mul_of_nonneg_right (show 1 ≤ dn k L by omega) (Int.le_of_lt g)
        omega
      have := pe (up k L) e.toNat uk ub (by omega)
      omega
    · rw [show (e + 1).toNat = 0 by omega, Int.pow_zero, Int.mul_one] at h2
      have g := ipp (-(e + 1)).toNat (show (0 : Int) < 2 by omega)
      have : (2 : Int) ^ (-(e + 1)).toNat ≤ up k L * 2 ^ (-(e + 1)).toNat := by
        have := Int.mul_le_mul_of_nonneg_right (show 1 ≤ up k L by omega) (Int.le_of_lt g)
        omega
      have := pe (dn k L) (-(e + 1)).toNat dk db (by omega)
      omega
  obtain ⟨x, hx⟩ := st.dvd m0
  have ex : m / d = x := by rw [hx]; exact Int.mul_ediv_cancel_left _ (by omega)
  have x0 : 0 < x := by
    apply Int.pos_of_mul_pos_right (a := d) <;> omega
  rw [ex] at cn
  have x20 : x ≤ 20 := by
    have : 1 * x ≤ d * x := Int.mul_le_mul_of_nonneg_right (by omega) (by omega)
    omega
  -- the quotient times d
  have q1 : (e / d).natAbs * d.toNat ≤ e.natAbs + d.toNat := by
    have a1 := Int.ediv_mul_le e (show d ≠ 0 by omega)
    have a2 := Int.lt_ediv_add_one_mul_self e dp
    have a3 : (((e / d).natAbs * d.toNat : Nat) : Int) = ((e / d).natAbs : Int) * d := by rw [Int.natCast_mul]; congr 1; omega
    rw [Int.add_mul, Int.one_mul] at a2
    by_cases c : 0 ≤ e / d
    · have : ((e / d).natAbs : Int) = e / d := by omega
      rw [this] at a3; omega
    · have : ((e / d).natAbs : Int) = -(e / d) := by omega
      rw [this, Int.neg_mul] at a3; omega
  have em : m.toNat = d.toNat * x.toNat := by
    have : ((d.toNat * x.toNat : Nat) : Int) = d * x := by rw [Int.natCast_mul]; congr 1 <;> omega
    rw [← hx] at this; omega
  rw [em, ← Nat.mul_assoc]
  have g1 : (e / d).natAbs * d.toNat * x.toNat ≤ (N + 1 + d.toNat) * x.toNat := Nat.mul_le_mul_right _ (by omega)
  have g2 : (N + 1 + d.toNat) * x.toNat = 10 * (k * cost L) * x.toNat + L.length * x.toNat + 2 * x.toNat + d.toNat * x.toNat := by
    rw [← hN]; grind
  have g3 : k * (cost L * x.toNat) ≤ 20 * 120 := Nat.mul_le_mul hk (by omega)
  have g4 : 10 * (k * cost L) * x.toNat = 10 * (k * (cost L * x.toNat)) := by grind
  have g5 : L.length * x.toNat ≤ cost L * x.toNat := Nat.mul_le_mul_right _ ll
  omega
end K02

namespace K02
open PySem PySem.Spec PyProof.Rows L2 Ly Am
section
variable {P : Program} {w : World} {K : PySem.W.Frag} {mg : Str → Option Value} {base : Heap}
local macro_rules | `(tactic| walk_at "isint") => `(tactic| refine ⟨_, "int", true, false, rfl, tyx_int, by decide +kernel, by decide +kernel, ?_⟩)
def spMul (K : PySem.W.Frag) : Sp := fun vs H Q _ => ∃ (D C a b : Addr) (n : Nat) (v1 v2 : V) (m1 T1 B1 m2 T2 B2 : Int) (M1 M2 : List (Int × Int)), vs = [.ref D, .ref a, .ref b] ∧ DeckAt H D C n ∧ n < 2 ^ 28 ∧
  SqT K H a [v1, .int m1, .int T1, .int B1] ∧ SqT K H b [v2, .int m2, .int T2, .int B2] ∧ Val K H v1 m1 (lg M1) ∧ Val K H v2 m2 (lg M2) ∧ Dw m1 T1 B1 M1 ∧ Dw m2 T2 B2 M2 ∧ ∀ H', Ot D C H H' → DeckAt H' D C (n + 10) → Q (.bl true) H'
theorem fitsK {L M : List (Int × Int)} {d m T B : Int} {k : Nat} (st : St4 d L m (lg M)) (dw : Dw m T B M) (hk : k ≤ 20) : Fits 10 k L := by
  have ok := dw.bd.ok st
  have cn := cost_lg st dw.kn.m0 fun q hq => (dw.num q hq).1
  have ll := len_cost st.1.nz
  have wg := dw.wg
  have c120 : cost L ≤ 120 := by omega
  refine ⟨fun q hq => ?_, fun q hq => ?_, ?_, by omega, ok.par⟩
  · obtain ⟨n, e, pn, _⟩ := st.1.pr q hq
    have := pn.pos
    have := ok.key q hq
    omega
  · have h1 := cost_mem hq
    have : k * q.2.natAbs ≤ 20 * 120 := Nat.mul_le_mul hk (by omega)
    omega
  · have : k * cost L ≤ 20 * 120 := Nat.mul_le_mul hk c120
    omega
theorem int2_rp {H : Hp} {p : Addr} {i j : Int} (hi : i.natAbs < 2 ^ 64) (hj : j.natAbs < 2 ^ 64) (hp : SqT K H p [V.int i, V.int j]) :
    Dp K H (.ref p) (.tuple [.int i, .int j]) ∧ (PyData.tuple [.int i, .int j]).showable = true ∧ (PyData.tuple [.int i, .int j]).hasDict = false ∧ (PyData.tuple [.int i, .int j]).depth ≤ 60 ∧ (PyData.tuple [.int i, .int j]).shown.length ≤ sizeLine :=
  tup_rp (c := 66) hp (.cons (.int _) (.cons (.int _) .nil)) (by
    intro d hd
    rcases List.mem_cons.mp hd with e | hd
    · rw [e]; exact told_int hi
    rw [List.mem_singleton.mp hd]; exact told_int hj) (by
    intro d hd
    rcases List.mem_cons.mp hd with e | hd
    · rw [e]; simp [PyData.depth]
    rw [List.mem_singleton.mp hd]; simp [PyData.depth]) (by show 2 * _ + 4 ≤ _; omega)
theorem ordI_eq (T B : Int) : (if decide (B < T) = true then (1 : Int) else 0) - (if decide (T < B) = true then (1 : Int) else 0) = ordI T B := by
  unfold ordI
  simp only [decide_eq_true_eq]
theorem ordI_small (T B : Int) : (ordI T B).natAbs < 2 ^ 64 := by unfold ordI; split <;> split <;> omega
theorem ca_L_is_multiple_right (T : Tx K mg) : CaG P w K mg base 8 "_law_is_multiple_right" s_L_is_multiple_right ["_law_deck_here", "_law_one", "_law_other"] (spMul K) := by
  have C_L_draw := ca_L_draw (P := P) (w := w) (base := base) T
  have C_L_power := ca_L_power (P := P) (w := w) (base := base) T
  have C_L_stands := ca_L_stands (P := P) (w := w) (base := base) T
  have C_L_is_integer := ca_L_is_integer (P := P) (w := w) (base := base) T
  have C_plus := ca_plus (P := P) (w := w) (base := base) T
  have C_times := ca_times (P := P) (w := w) (base := base) T
  have C_sign_of := ca_sign_of (P := P) (w := w) (base := base) T
  have C_steps_of := ca_steps_of (P := P) (w := w) (base := base) T
  refine CaG.of (fd_L_is_multiple_right T) sc_L_is_multiple_right ?_ ?_
  · rintro vs H Q E ⟨D, C, a, b, n, v1, v2, m1, T1, B1, m2, T2, B2, M1, M2, rfl, _⟩; rfl
  · rintro f cdv A out s H vs Q E hgd hr ⟨D, C, a, b, n, v1, v2, m1, T1, B1, m2, T2, B2, M1, M2, rfl, da, hn, ha, hb, V1, V2, k1, k2, q⟩
    refine ⟨_, (pss_cons (ps_asg (pv 1) (pg_tup rfl (pgs_cons (pg_name (i := 3) sc_L_is_multiple_right.nd rfl (.inl rfl)) (pgs_cons (pg_name (i := 4) sc_L_is_multiple_right.nd rfl (.inl rfl)) (pgs_cons (pg_name (i := 5) sc_L_is_multiple_right.nd rfl (.inl rfl)) (pgs_cons (pg_name (i := 6) sc_L_is_multiple_right.nd rfl (.inl rfl)) pgs_nil))))))
 (pss_cons (ps_par (i := 7) (j := 8) rfl sc_L_is_multiple_right.nd rfl rfl (by decide) rfl rfl (pa_cons (pe_op op_sub (pe_ca C_L_draw hr (pa_cons (pv 0) (pa_cons pe_int pa_nil))) pe_int) (pa_cons (pe_op op_add pe_int (pe_ca C_L_draw hr (pa_cons (pv 0) (pa_cons pe_int pa_nil)))) pa_nil)) rfl)
 (pss_cons (ps_set (i := 9) sc_L_is_multiple_right.nd rfl (.inl rfl) (pe_ca C_times hr (pa_cons (pv 3) (pa_cons (pv 7) (pa_cons (pv 8) pa_nil)))))
 (pss_cons (ps_set (i := 10) sc_L_is_multiple_right.nd rfl (.inl rfl) (pe_ifExp (pt_cmpR op_ge (pv 7) pe_int (nomark _)) (pe_tup (pa_cons (pe_ca C_L_power hr (pa_cons (pv 5) (pa_cons (pv 7) pa_nil))) (pa_cons (pe_ca C_L_power hr (pa_cons (pv 6) (pa_cons (pv 7) pa_nil))) pa_nil))) (pe_tup (pa_cons (pe_ca C_L_power hr (pa_cons (pv 6) (pa_cons (pe_un un_neg (pv 7)) pa_nil))) (pa_cons (pe_ca C_L_power hr (pa_cons (pv 5) (pa_cons (pe_un un_neg (pv 7)) pa_nil))) pa_nil)))))
 (pss_cons (ps_if (PW.pt (pw_or (pt_not (pt_val (pe_ca C_L_stands hr (pa_cons (pv 9) (pa_cons (pe_op op_mulW (pv 4) (pv 8)) (pa_cons (pe_ix ix_tup (pv 10) pe_int (fun _ _ => rfl)) (pa_cons (pe_ix ix_tup (pv 10) pe_int (fun _ _ => rfl)) pa_nil))))))) (pw_or1 (pt_cmpR op_ne (pe_callB (cr_repr hgd hr.units) (by rfl) T.f_repr (by decide +kernel) (pa_cons (pe_caKr ["bottom", "top", "amount"] C_times hr (pk_cons (pv 8) (pk_cons (pv 7) (pk_cons (pv 3) pk_nil))) (fun _ _ _ _ _ _ ws hl => match ws, hl with | [_, _, _], _ => rfl)) pa_nil)) (pe_callB (cr_repr hgd hr.units) (by rfl) T.f_repr (by decide +kernel) (pa_cons (pv 9) pa_nil)) (nomark _)))))
 (pss_one (ps_ret pe_bl))
 pss_nil)
 (pss_cons (ps_if (pt_cmpR op_ne (pe_callB (cr_repr hgd hr.units) (by rfl) T.f_repr (by decide +kernel) (pa_cons (pe_tup (pa_cons (pe_ca C_sign_of hr (pa_cons (pv 3) pa_nil)) (pa_cons (pe_caK ["amount"] C_sign_of hr (pk_cons (pv 9) pk_nil) (fun _ _ _ _ _ _ us ws hl => match us, ws, hl with | [], [_], _ => rfl | [_], [], _ => rfl)) pa_nil))) pa_nil)) (pe_callB (cr_repr hgd hr.units) (by rfl) T.f_repr (by decide +kernel) (pa_cons (pe_tup (pa_cons (pe_op op_sub (pe_callTy call_int1 (by rfl) T.f_int (by decide +kernel) (pa_cons (pe_cmpR op_gt (pv 5) (pv 6) (nomark _)) pa_nil)) (pe_callTy call_int1 (by rfl) T.f_int (by decide +kernel) (pa_cons (pe_cmpR op_lt (pv 5) (pv 6) (nomark _)) pa_nil))) (pa_cons (pe_op op_sub (pe_callTy call_int1 (by rfl) T.f_int (by decide +kernel) (pa_cons (pe_cmpR op_gt (pe_ix ix_tup (pv 10) pe_int (fun _ _ => rfl)) (pe_ix ix_tup (pv 10) pe_int (fun _ _ => rfl)) (nomark _)) pa_nil)) (pe_callTy call_int1 (by rfl) T.f_int (by decide +kernel) (pa_cons (pe_cmpR op_lt (pe_ix ix_tup (pv 10) pe_int (fun _ _ => rfl)) (pe_ix ix_tup (pv 10) pe_int (fun _ _ => rfl)) (nomark _)) pa_nil))) pa_nil))) pa_nil)) (nomark _))
 (pss_one (ps_ret pe_bl))
 pss_nil)
 (pss_cons (ps_if (pt_cmpR op_ne (pe_callB (cr_repr hgd hr.units) (by rfl) T.f_repr (by decide +kernel) (pa_cons (pe_ca C_times hr (pa_cons (pe_ca C_plus hr (pa_cons (pv 3) (pa_cons (pe_ix ix_tup (pv 2) pe_int (fun _ _ => rfl)) pa_nil))) (pa_cons (pv 7) (pa_cons (pv 8) pa_nil)))) pa_nil)) (pe_callB (cr_repr hgd hr.units) (by rfl) T.f_repr (by decide +kernel) (pa_cons (pe_ca C_plus hr (pa_cons (pv 9) (pa_cons (pe_ca C_times hr (pa_cons (pe_ix ix_tup (pv 2) pe_int (fun _ _ => rfl)) (pa_cons (pv 7) (pa_cons (pv 8) pa_nil)))) pa_nil))) pa_nil)) (nomark _))
 (pss_one (ps_ret pe_bl))
 pss_nil)
 (pss_cons (ps_set (i := 11) sc_L_is_multiple_right.nd rfl (.inl rfl) (pe_op op_add pe_int (pe_ca C_L_draw hr (pa_cons (pv 0) (pa_cons pe_int pa_nil)))))
 (pss_cons (ps_set (i := 12) sc_L_is_multiple_right.nd rfl (.inl rfl) (pe_ca C_steps_of hr (pa_cons (pv 3) (pa_cons (pv 11) pa_nil))))
 (pss_cons (ps_if (PW.pt (pw_or (pt_not (pt_val (pe_ca C_L_is_integer hr (pa_cons (pv 12) pa_nil)))) (pw_or1 (pt_cmpR op_ne (pe_callB SkE.call_repr_int (by rfl) T.f_repr (by decide +kernel) (pa_cons (pe_caKr ["k", "amount"] C_steps_of hr (pk_cons (pv 11) (pk_cons (pv 3) pk_nil)) (fun _ _ _ _ _ _ ws hl => match ws, hl with | [_, _], _ => rfl)) pa_nil)) (pe_callB SkE.call_repr_int (by rfl) T.f_repr (by decide +kernel) (pa_cons (pv 12) pa_nil)) (nomark _)))))
 (pss_one (ps_ret pe_bl))
 pss_nil)
 (pss_cons (ps_for PassesOwn.never rfl (pi_tup (pe_tup (pa_cons (pe_tup (pa_cons (pv 12) (pa_cons pe_bl pa_nil))) (pa_cons (pe_tup (pa_cons (pe_op op_add (pv 12) pe_int) (pa_cons pe_bl pa_nil))) pa_nil)))) (pg_tup rfl (pgs_cons (pg_name (i := 13) sc_L_is_multiple_right.nd rfl (.inl rfl)) (pgs_cons (pg_name (i := 14) sc_L_is_multiple_right.nd rfl (.inl rfl)) pgs_nil)))
 (pss_cons (ps_set (i := 15) sc_L_is_multiple_right.nd rfl (.inl rfl) (pe_op op_mulW (pe_ca C_L_power hr (pa_cons pe_int (pa_cons (pe_op op_mulW (pe_callB (call_max2 rfl) (by rfl) T.f_max (by decide +kernel) (pa_cons pe_int (pa_cons (pv 13) pa_nil))) (pv 4)) pa_nil))) (pe_ca C_L_power hr (pa_cons (pv 6) (pa_cons (pv 11) pa_nil)))))
 (pss_cons (ps_set (i := 16) sc_L_is_multiple_right.nd rfl (.inl rfl) (pe_op op_mulW (pe_ca C_L_power hr (pa_cons pe_int (pa_cons (pe_op op_mulW (pe_callB (call_max2 rfl) (by rfl) T.f_max (by decide +kernel) (pa_cons pe_int (pa_cons (pe_un un_neg (pv 13)) pa_nil))) (pv 4)) pa_nil))) (pe_ca C_L_power hr (pa_cons (pv 5) (pa_cons (pv 11) pa_nil)))))
 (pss_one (ps_if (pt_cmpR op_ne (pe_cmpR op_le (pv 15) (pv 16) (nomark _)) (pv 14) (nomark _))
 (pss_one (ps_ret pe_bl))
 pss_nil)))))
 (pss_one (ps_ret pe_bl))))))))))))), ?_⟩
    refine ⟨_, rfl, a, _, rfl, ha, rfl, _, _, rfl, _, _, rfl, _, _, rfl, _, [], rfl, rfl, ?_⟩
    refine ⟨_, rfl, D, C, n, 13, rfl, da, by omega, by omega, by omega, fun z1 H1 z10 z11 o1 da1 => ?_⟩
    refine ⟨_, _, rfl, rfl, ?_⟩
    refine ⟨_, rfl, D, C, n + 1, 9, rfl, da1, by omega, by omega, by omega, fun z2 H2 z20 z21 o2 da2 => ?_⟩
    refine ⟨_, _, rfl, rfl, _, _, rfl, ?_⟩
    obtain ⟨top, htop⟩ : ∃ top, z1 - 6 = top := ⟨_, rfl⟩
    obtain ⟨by_, hby⟩ : ∃ by_, 1 + z2 = by_ := ⟨_, rfl⟩
    dsimp only
    rw [htop, hby]
    have t0 : -6 ≤ top := by omega
    have t1 : top ≤ 6 := by omega
    have b0 : 0 < by_ := by omega
    have b1 : by_ ≤ 9 := by omega
    have oo := o1.trans o2
    have kp := oo.kp da
    clear htop hby z10 z11 z20 z21
    have W1 := (k1.wv V1).kp kp
    have W2 := (k2.wv V2).kp kp
    have ha2 := SqT.kp kp ha
    have hb2 := SqT.kp kp hb
    have p1 := W1.B0
    have p2 := W2.B0
    obtain ⟨d1, L1, am1, st1⟩ := id W1.val
    have ok1 := k1.bd.ok st1
    clear ha hb V1 V2 kp da da1 o1 o2
    refine ⟨_, rfl, _, rfl, _, rfl, v1, m1, lg M1, top, by_, rfl, W1.val, k1.bd, by omega, by omega, by omega, by omega, fun vn H3 s3 hvn => ?_⟩
    have Wn := W1.tm top by_ 6 9 b0 (by omega) (by omega) vn H3 hvn
    have da3 := da2.same s3
    have o3 := oo.trans (Ot.of s3)
    have T10 := k1.kn.T0
    have B10 := k1.kn.B0
    have Tb := k1.kn.Tb
    have Bb := k1.kn.Bb
    refine ⟨_, rfl, _, _, rfl, rfl, _, rfl, ite2 (fun c => ?_) (fun c => ?_)⟩
    · have c' : 0 ≤ top := of_decide_eq_true c
      have ee : ((top.toNat : Nat) : Int) = top := by omega
      refine ⟨_, rfl, _, rfl, T1, top.toNat, 600, by show [V.int T1, V.int top] = _; rw [ee], Tb, by omega, by omega, ?_⟩
      refine ⟨_, rfl, _, rfl, B1, top.toNat, 600, by show [V.int B1, V.int top] = _; rw [ee], Bb, by omega, by omega, ?_⟩
      refine ⟨by show 2 ≤ sizeLine; rw [sizeLine_eq]; omega, fun t nt => ?_⟩
      have DT0 := ipp top.toNat T10
      have DB0 := ipp top.toNat B10
      have DTb := Nat.lt_of_lt_of_le (pow_bits Tb top.toNat) (Nat.pow_le_pow_right (n := 2) (by omega) (show 600 * top.toNat + 1 ≤ 3601 by omega))
      have DBb := Nat.lt_of_lt_of_le (pow_bits Bb top.toNat) (Nat.pow_le_pow_right (n := 2) (by omega) (show 600 * top.toNat + 1 ≤ 3601 by omega))
      have dvi : ∀ p : Nat, Pr p → vi p (T1 ^ top.toNat) = vi p (B1 ^ top.toNat) + lg (scl top M1) p := fun p hp => by
        rw [vi_pow hp T10, vi_pow hp B10, k1.kn.vi p hp, lg_scl, ee]; grind
      generalize T1 ^ top.toNat = DT at *
      generalize B1 ^ top.toNat = DB at *
      have s4 := same_new (o := .tup [V.int DT, V.int DB]) nt
      have ht : SqT K (upd H3 t (.tup [V.int DT, V.int DB])) t [V.int DT, V.int DB] := sqT_new
      generalize upd H3 t (.tup [V.int DT, V.int DB]) = H4 at *
      have s24 := s3.trans s4
      have Wn4 := Wn.same s4
      obtain ⟨dn1, Ln, amn, stn⟩ := id Wn4.val
      have pn := Wn4.B0
      have okn := (Wn4.bd (by omega) (by omega)).ok stn
      have m20 := k1.m20
      have m20' := k2.m20
      have mb : m1 * by_ ≤ 20 * 9 := Int.mul_le_mul m20 b1 (by omega) (by omega)
      have fitn := fitS (n := 10) stn pn (by omega) (by omega) (fun q hq => ⟨(Wn4.num q hq).1, by have := (Wn4.num q hq).2; omega⟩) (by have := Wn4.wl; omega)
      refine ⟨_, rfl, _, rfl, _, rfl, _, _, rfl, rfl, wide_mul (a := 20) (b := 20) (by omega) (by omega) (by omega) (by omega) (by omega), _, rfl, t, _, 0, _, rfl, rfl, ht, atI_nat (j := 0) rfl, _, rfl, t, _, 1, _, rfl, rfl, ht, atI_nat (j := 1) rfl, ?_⟩
      refine ⟨vn, m1 * by_, DT, DB, _, 10, 10 * (1 * cost Ln) + Ln.length + 1, 3601, rfl, Wn4.val, Wn4.bd (by omega) (by omega), by omega, DT0, DB0, dvi, fun d L st => ?_, DTb, DBb, by omega, fun H5 s5 => ⟨true, rfl, iteF ?_⟩⟩
      · obtain ⟨g1, g2⟩ := St4.unique st stn pn pn fun p => rfl
        subst g1 g2
        exact fitn
      have s25 := s24.trans s5
      refine ⟨_, rfl, _, rfl, _, rfl, v1, m1, lg M1, top, by_, rfl, (W1.same s25).val, k1.bd, by omega, by omega, by omega, by omega, fun vq H6 s6 hvq => ?_⟩
      have amq := (W1.tm top by_ 6 9 b0 (by omega) (by omega) vq H6 hvq).at stn pn fun p => rfl
      obtain ⟨ra1, re1, rb1, rc1, rd1, rf1, rg1⟩ := okn.rp amq
      obtain ⟨ra2, re2, rb2, rc2, rd2, rf2, rg2⟩ := okn.rp (amn.same (s5.trans s6))
      refine ⟨ra1, _, by rw [re1], rb1, rc1, rd1, rf1, rg1, _, rfl, ra2, _, by rw [re2], rb2, rc2, rd2, rf2, rg2, rfl, _, rfl, ?_⟩
      rw [no_ne rfl]
      refine iteF ?_
      clear re1 rb1 re2 rb2 rc1 rd1 rf1 rg1 rc2 rd2 rf2 rg2 amq hvq
      have s46 := s5.trans s6
      have s26 := s24.trans s46
      -- the signs
      have f1 := fitsK (k := 1) st1 k1 (by omega)
      have sg1 := (sgn_of st1 p1 T10 B10 k1.kn.vi).2.2
      have sgn2 := (sgn_of stn pn DT0 DB0 dvi).2.2
      refine ⟨_, rfl, v1, d1, L1, 10, rfl, am1.same s26, ok1, f1, fun H7 s7 => ?_⟩
      refine ⟨_, rfl, vn, dn1, Ln, 10, rfl, amn.same (s46.trans s7), okn, fitn.1, fun H8 s8 => ?_⟩
      rw [sg1, sgn2]
      have z2 : 2 ≤ sizeLine := by rw [sizeLine_eq]; omega
      refine ⟨z2, fun t5 nt5 => ?_⟩
      have s9 := same_new (o := .tup [V.int (ordI T1 B1), V.int (ordI DT DB)]) nt5
      obtain ⟨r1, r2, r3, r4, r5⟩ := int2_rp (ordI_small T1 B1) (ordI_small DT DB) (sqT_new (K := K) (p := t5) (H := H8))
      refine ⟨t5, _, rfl, r1, r2, r3, r4, r5, ?_⟩
      have s79 := s7.trans (s8.trans s9)
      clear r1 r2 r3 r4 r5
      generalize upd H8 t5 (.tup [V.int (ordI T1 B1), V.int (ordI DT DB)]) = H9 at *
      have ht9 := SqT.same (s46.trans s79) ht
      refine ⟨_, rfl, _, rfl, _, _, rfl, rfl, .inr ⟨_, rfl, ?_⟩⟩
      refine ⟨_, rfl, _, rfl, _, _, rfl, rfl, .inr ⟨_, rfl, _, _, rfl, rfl, ?_⟩⟩
      refine ⟨_, rfl, t, _, 0, _, rfl, rfl, ht9, atI_nat (j := 0) rfl, _, rfl, t, _, 1, _, rfl, rfl, ht9, atI_nat (j := 1) rfl, _, _, rfl, rfl, .inr ⟨_, rfl, ?_⟩⟩
      refine ⟨_, rfl, t, _, 0, _, rfl, rfl, ht9, atI_nat (j := 0) rfl, _, rfl, t, _, 1, _, rfl, rfl, ht9, atI_nat (j := 1) rfl, _, _, rfl, rfl, .inr ⟨_, rfl, _, _, rfl, rfl, ?_⟩⟩
      dsimp only
      rw [ordI_eq T1 B1, ordI_eq DT DB]
      refine ⟨z2, fun t6 nt6 => ?_⟩
      have s10 := same_new (o := .tup [V.int (ordI T1 B1), V.int (ordI DT DB)]) nt6
      obtain ⟨r1, r2, r3, r4, r5⟩ := int2_rp (ordI_small T1 B1) (ordI_small DT DB) (sqT_new (K := K) (p := t6) (H := H9))
      refine ⟨t6, _, rfl, r1, r2, r3, r4, r5, rfl, _, rfl, ?_⟩
      rw [no_ne rfl]
      refine iteF ?_
      have s2_10 := s26.trans (s79.trans s10)
      have s4_10 := s46.trans (s79.trans s10)
      clear r1 r2 r3 r4 r5 ht9 s79
      generalize upd H9 t6 (.tup [V.int (ordI T1 B1), V.int (ordI DT DB)]) = H10 at *
      have hb10 := SqT.same s2_10 hb2
      -- a multiple of the sum
      obtain ⟨x1, x2, x3, x4, x5⟩ := (W1.same s2_10).pm (W2.same s2_10) 1 (.inl rfl) (by omega) (by omega)
      refine ⟨_, rfl, _, rfl, b, _, 0, _, rfl, rfl, hb10, atI_nat (j := 0) rfl, v1, v2, _, _, _, rfl, x1, x2, x3, x4, fun vp H11 s11 hvp => ?_⟩
      have Wp := x5 vp H11 hvp
      clear x1 x2 x3 x4 x5
      refine ⟨_, rfl, _, rfl, vp, m1 * m2, _, top, by_, rfl, Wp.val, Wp.bd (by omega) (by omega), by omega, by omega, by omega, by omega, fun vr H12 s12 hvr => ?_⟩
      have Wr := Wp.tm top by_ 6 9 b0 (by omega) (by omega) vr H12 hvr
      obtain ⟨dr, Lr, amr, str⟩ := id Wr.val
      have okr := (Wr.bd (by omega) (by omega)).ok str
      obtain ⟨ra1, re1, rb1, rc1, rd1, rf1, rg1⟩ := okr.rp amr
      refine ⟨ra1, _, by rw [re1], rb1, rc1, rd1, rf1, rg1, ?_⟩
      have s2_12 := s2_10.trans (s11.trans s12)
      have s4_12 := s4_10.trans (s11.trans s12)
      refine ⟨_, rfl, _, rfl, b, _, 0, _, rfl, rfl, SqT.same (s11.trans s12) hb10, atI_nat (j := 0) rfl, _, rfl, _, rfl, v2, m2, lg M2, top, by_, rfl, (W2.same s2_12).val, k2.bd, by omega, by omega, by omega, by omega, fun vs H13 s13 hvs => ?_⟩
      have Ws := (W2.same s2_12).tm top by_ 6 9 b0 (by omega) (by omega) vs H13 hvs
      obtain ⟨x1, x2, x3, x4, x5⟩ := (Wn4.same (s4_12.trans s13)).pm Ws 1 (.inl rfl) (by omega) (by omega)
      refine ⟨vn, vs, _, _, _, rfl, x1, x2, x3, x4, fun vt H14 s14 hvt => ?_⟩
      have amt := (x5 vt H14 hvt).at str Wr.B0 fun p => by
        simp only [lg_append, lg_scl]; grind
      obtain ⟨ra2, re2, rb2, rc2, rd2, rf2, rg2⟩ := okr.rp amt
      refine ⟨ra2, _, by rw [re2], rb2, rc2, rd2, rf2, rg2, rfl, _, rfl, ?_⟩
      rw [no_ne rfl]
      refine iteF ?_
      have s2_14 := s2_12.trans (s13.trans s14)
      clear x1 x2 x3 x4 x5 re1 rb1 re2 rb2 rc1 rd1 rf1 rg1 rc2 rd2 rf2 rg2 amt amr hvt hvs hvr hvp Ws Wr Wp s4_12 s4_10 str okr
      have da14 := da2.same s2_14
      have o14 := oo.trans (Ot.of s2_14)
      -- steps
      refine ⟨_, rfl, D, C, n + 1 + 1, 20, rfl, da14, by omega, by omega, by omega, fun z3 H15 z30 z31 o15 da15 => ?_⟩
      refine ⟨_, _, rfl, rfl, ?_⟩
      obtain ⟨k, hk⟩ : ∃ k : Nat, 1 + z3 = k := ⟨(1 + z3).toNat, by omega⟩
      dsimp only
      rw [hk]
      have k0 : 0 < k := by omega
      have k20 : k ≤ 20 := by omega
      have kp15 := o15.kp da14
      have am15 := (am1.same s2_14).kp kp15
      have fk := fitsK st1 k1 k20
      refine ⟨_, rfl, _, rfl, v1, d1, L1, k, 10, rfl, am15, ok1, k0, by omega, fk, fun e H16 s16 g1 g2 => ?_⟩
      have ss := steps_fit st1 k1.kn g1 g2
      have sz := steps_size st1 k1 g1 g2 k20
      refine ⟨_, rfl, ?_⟩
      walk_at "isint"
      refine ⟨true, rfl, iteF ?_⟩
      refine ⟨_, rfl, _, rfl, v1, d1, L1, k, 10, rfl, am15.same s16, ok1, k0, by omega, fk, fun e2 H17 s17 g3 g4 => ?_⟩
      have lp : ∀ q ∈ L1, 0 < q.1 := fun q hq => (fk.pos q hq).1
      obtain ⟨uk0, dk0⟩ := upk_pos (k := k) lp
      have ee2 : e2 = e := by
        have h1 := (le2_iff uk0 dk0 g1 g2).mp g3
        have h2 := (le2_iff uk0 dk0 g3 g4).mp g1
        omega
      rw [ee2]
      generalize e / d1 = S at *
      have m1n : 0 < m1.toNat := by omega
      have m20n : m1.toNat ≤ 20 := by omega
      have Ss : S.natAbs ≤ 30000 := by
        have : S.natAbs * 1 ≤ S.natAbs * m1.toNat := Nat.mul_le_mul_left _ m1n
        omega
      have slog : S.natAbs.log2 < 1920 := by
        by_cases z : S.natAbs = 0
        · rw [z]; decide
        · have : S.natAbs.log2 < 20 := (Nat.log2_lt z).mpr (by omega)
          omega
      refine ⟨S, rfl, slog, _, rfl, S, rfl, slog, rfl, _, rfl, ?_⟩
      rw [no_ne rfl]
      refine iteF ?_
      refine ⟨_, rfl, z2, fun q1 nq1 => ⟨_, rfl, _, _, rfl, rfl, z2, fun q2 nq2 => ⟨z2, fun q3 nq3 => ?_⟩⟩⟩
      have y1 := same_new (o := .tup [V.int S, V.bl true]) nq1
      have y2 := same_new (o := .tup [V.int (S + 1), V.bl false]) nq2
      have y3 := same_new (o := .tup [V.ref q1, V.ref q2]) nq3
      have hq1 := SqT.same (y2.trans y3) (sqT_new (K := K) (H := H17) (p := q1) (xs := [V.int S, V.bl true]))
      have hq2 := SqT.same y3 (sqT_new (K := K) (H := upd H17 q1 (.tup [V.int S, V.bl true])) (p := q2) (xs := [V.int (S + 1), V.bl false]))
      have hq3 := sqT_new (K := K) (H := upd (upd H17 q1 (.tup [V.int S, V.bl true])) q2 (.tup [V.int (S + 1), V.bl false])) (p := q3) (xs := [V.ref q1, V.ref q2])
      have s15f := s16.trans (s17.trans (y1.trans (y2.trans y3)))
      generalize upd (upd (upd H17 q1 (.tup [V.int S, V.bl true])) q2 (.tup [V.int (S + 1), V.bl false])) q3 (.tup [V.ref q1, V.ref q2]) = Hf at *
      refine ⟨q3, rfl, ⟨_, hq3⟩, ?_⟩
      refine for_tup (xs := [V.ref q1, V.ref q2]) (fun i σ H' => ∃ y13 y14 y15 y16, σ = [some (.ref D), some (.ref a), some (.ref b), some v1, some (.int m1), some (.int T1), some (.int B1), some (.int top), some (.int by_), some vn, some (.ref t), some (.int (k : Int)), some (.int S), y13, y14, y15, y16] ∧ Hf = H') ⟨none, none, none, none, rfl, rfl⟩ ?_ ?_ ?_
      · rintro i σ H' _ ⟨_, _, _, _, _, rfl⟩; exact hq3
      · rintro i x σ H' hx ⟨y13, y14, y15, y16, rfl, rfl⟩
        obtain ⟨qq, s, bb, rfl, hqq, hs, hfit⟩ : ∃ qq s bb, x = V.ref qq ∧ SqT K Hf qq [V.int s, V.bl bb] ∧ s.natAbs * m1.toNat ≤ 30020 ∧ decide (2 ^ (s.toNat * m1.toNat) * B1 ^ k ≤ 2 ^ ((-s).toNat * m1.toNat) * T1 ^ k) = bb := by
          match i, hx with
          | 0, hx =>
            exact ⟨q1, S, true, (Option.some.inj hx).symm, hq1, by omega, decide_eq_true ((ss S).mpr (Int.le_refl _))⟩
          | 1, hx =>
            refine ⟨q2, S + 1, false, (Option.some.inj hx).symm, hq2, ?_, decide_eq_false fun z => by have := (ss (S + 1)).mp z; omega⟩
            have : (S + 1).natAbs * m1.toNat ≤ (S.natAbs + 1) * m1.toNat := Nat.mul_le_mul_right _ (by omega)
            rw [Nat.add_mul] at this; omega
          | j + 2, hx => cases hx
        have mx : ∀ z : Int, (if z > 0 then z else 0) * m1 = ((z.toNat * m1.toNat : Nat) : Int) := fun z => by
          rw [Int.natCast_mul]
          congr 1
          · split <;> omega
          · omega
        have zs : s.natAbs ≤ 30020 := by
          have : s.natAbs * 1 ≤ s.natAbs * m1.toNat := Nat.mul_le_mul_left _ m1n
          omega
        have e1 : s.toNat * m1.toNat ≤ 30020 := Nat.le_trans (Nat.mul_le_mul_right _ (by omega)) hs
        have e2 : (-s).toNat * m1.toNat ≤ 30020 := Nat.le_trans (Nat.mul_le_mul_right _ (by omega)) hs
        have w2 : ∀ j : Nat, ((2 : Int) ^ j).natAbs < 2 ^ (2 * j + 1) := fun j => pow_bits (by decide) j
        have wB := pow_bits Bb k
        have wT := pow_bits Tb k
        refine ⟨qq, _, rfl, hqq, rfl, _, _, rfl, _, [], rfl, rfl, ?_⟩
        refine ⟨_, rfl, 0, s, rfl, _, rfl, _, _, rfl, rfl, wide_mul (a := 20) (b := 20) (by split <;> omega) (by omega) (by omega) (by omega) (by omega), 2, s.toNat * m1.toNat, 2, by rw [← mx]; rfl, by decide, by omega, by omega, ?_⟩
        refine ⟨_, rfl, _, rfl, B1, k, 600, rfl, Bb, by omega, by omega, _, _, rfl, rfl, wide_mul (w2 _) wB (by omega) (by omega) (by omega), ?_⟩
        refine ⟨_, rfl, _, rfl, 0, -s, rfl, _, rfl, _, _, rfl, rfl, wide_mul (a := 20) (b := 20) (by split <;> omega) (by omega) (by omega) (by omega) (by omega), 2, (-s).toNat * m1.toNat, 2, by rw [← mx]; rfl, by decide, by omega, by omega, ?_⟩
        refine ⟨_, rfl, _, rfl, T1, k, 600, rfl, Tb, by omega, by omega, _, _, rfl, rfl, wide_mul (w2 _) wT (by omega) (by omega) (by omega), ?_⟩
        refine ⟨_, rfl, _, rfl, _, _, rfl, rfl, _, rfl, rfl, _, rfl, ?_⟩
        have hb : (!decide (V.bl (decide (2 ^ (s.toNat * m1.toNat) * B1 ^ k ≤ 2 ^ ((-s).toNat * m1.toNat) * T1 ^ k)) = V.bl bb)) = false := by rw [hfit]; simp
        rw [hb]
        exact iteF ⟨_, _, _, _, rfl, rfl⟩
      · rintro σ H' ⟨_, _, _, _, rfl, rfl⟩
        exact q _ ((o14.trans o15).trans (Ot.of s15f)) ((da15.mono (by omega)).same s15f)
    · have c' : ¬ 0 ≤ top := fun z => c (decide_eq_true z)
      have ee : (((-top).toNat : Nat) : Int) = -top := by omega
      refine ⟨_, rfl, _, rfl, _, rfl, B1, (-top).toNat, 600, by show [V.int B1, V.int (-top)] = _; rw [ee], Bb, by omega, by omega, ?_⟩
      refine ⟨_, rfl, _, rfl, _, rfl, T1, (-top).toNat, 600, by show [V.int T1, V.int (-top)] = _; rw [ee], Tb, by omega, by omega, ?_⟩
      refine ⟨by show 2 ≤ sizeLine; rw [sizeLine_eq]; omega, fun t nt => ?_⟩
      have DT0 := ipp (-top).toNat B10
      have DB0 := ipp (-top).toNat T10
      have DTb := Nat.lt_of_lt_of_le (pow_bits Bb (-top).toNat) (Nat.pow_le_pow_right (n := 2) (by omega) (show 600 * (-top).toNat + 1 ≤ 3601 by omega))
      have DBb := Nat.lt_of_lt_of_le (pow_bits Tb (-top).toNat) (Nat.pow_le_pow_right (n := 2) (by omega) (show 600 * (-top).toNat + 1 ≤ 3601 by omega))
      have dvi : ∀ p : Nat, Pr p → vi p (B1 ^ (-top).toNat) = vi p (T1 ^ (-top).toNat) + lg (scl top M1) p := fun p hp => by
        rw [vi_pow hp T10, vi_pow hp B10, k1.kn.vi p hp, lg_scl, ee]; grind
      generalize T1 ^ (-top).toNat = DB at *
      generalize B1 ^ (-top).toNat = DT at *
      have s4 := same_new (o := .tup [V.int DT, V.int DB]) nt
      have ht : SqT K (upd H3 t (.tup [V.int DT, V.int DB])) t [V.int DT, V.int DB] := sqT_new
      generalize upd H3 t (.tup [V.int DT, V.int DB]) = H4 at *
      have s24 := s3.trans s4
      have Wn4 := Wn.same s4
      obtain ⟨dn1, Ln, amn, stn⟩ := id Wn4.val
      have pn := Wn4.B0
      have okn := (Wn4.bd (by omega) (by omega)).ok stn
      have m20 := k1.m20
      have m20' := k2.m20
      have mb : m1 * by_ ≤ 20 * 9 := Int.mul_le_mul m20 b1 (by omega) (by omega)
      have fitn := fitS (n := 10) stn pn (by omega) (by omega) (fun q hq => ⟨(Wn4.num q hq).1, by have := (Wn4.num q hq).2; omega⟩) (by have := Wn4.wl; omega)
      refine ⟨_, rfl, _, rfl, _, rfl, _, _, rfl, rfl, wide_mul (a := 20) (b := 20) (by omega) (by omega) (by omega) (by omega) (by omega), _, rfl, t, _, 0, _, rfl, rfl, ht, atI_nat (j := 0) rfl, _, rfl, t, _, 1, _, rfl, rfl, ht, atI_nat (j := 1) rfl, ?_⟩
      refine ⟨vn, m1 * by_, DT, DB, _, 10, 10 * (1 * cost Ln) + Ln.length + 1, 3601, rfl, Wn4.val, Wn4.bd (by omega) (by omega), by omega, DT0, DB0, dvi, fun d L st => ?_, DTb, DBb, by omega, fun H5 s5 => ⟨true, rfl, iteF ?_⟩⟩
      · obtain ⟨g1, g2⟩ := St4.unique st stn pn pn fun p => rfl
        subst g1 g2
        exact fitn
      have s25 := s24.trans s5
      refine ⟨_, rfl, _, rfl, _, rfl, v1, m1, lg M1, top, by_, rfl, (W1.same s25).val, k1.bd, by omega, by omega, by omega, by omega, fun vq H6 s6 hvq => ?_⟩
      have amq := (W1.tm top by_ 6 9 b0 (by omega) (by omega) vq H6 hvq).at stn pn fun p => rfl
      obtain ⟨ra1, re1, rb1, rc1, rd1, rf1, rg1⟩ := okn.rp amq
      obtain ⟨ra2, re2, rb2, rc2, rd2, rf2, rg2⟩ := okn.rp (amn.same (s5.trans s6))
      refine ⟨ra1, _, by rw [re1], rb1, rc1, rd1, rf1, rg1, _, rfl, ra2, _, by rw [re2], rb2, rc2, rd2, rf2, rg2, rfl, _, rfl, ?_⟩
      rw [no_ne rfl]
      refine iteF ?_
      clear re1 rb1 re2 rb2 rc1 rd1 rf1 rg1 rc2 rd2 rf2 rg2 amq hvq
      have s46 := s5.trans s6
      have s26 := s24.trans s46
      -- the signs
      have f1 := fitsK (k := 1) st1 k1 (by omega)
      have sg1 := (sgn_of st1 p1 T10 B10 k1.kn.vi).2.2
      have sgn2 := (sgn_of stn pn DT0 DB0 dvi).2.2
      refine ⟨_, rfl, v1, d1, L1, 10, rfl, am1.same s26, ok1, f1, fun H7 s7 => ?_⟩
      refine ⟨_, rfl, vn, dn1, Ln, 10, rfl, amn.same (s46.trans s7), okn, fitn.1, fun H8 s8 => ?_⟩
      rw [sg1, sgn2]
      have z2 : 2 ≤ sizeLine := by rw [sizeLine_eq]; omega
      refine ⟨z2, fun t5 nt5 => ?_⟩
      have s9 := same_new (o := .tup [V.int (ordI T1 B1), V.int (ordI DT DB)]) nt5
      obtain ⟨r1, r2, r3, r4, r5⟩ := int2_rp (ordI_small T1 B1) (ordI_small DT DB) (sqT_new (K := K) (p := t5) (H := H8))
      refine ⟨t5, _, rfl, r1, r2, r3, r4, r5, ?_⟩
      have s79 := s7.trans (s8.trans s9)
      clear r1 r2 r3 r4 r5
      generalize upd H8 t5 (.tup [V.int (ordI T1 B1), V.int (ordI DT DB)]) = H9 at *
      have ht9 := SqT.same (s46.trans s79) ht
      refine ⟨_, rfl, _, rfl, _, _, rfl, rfl, .inr ⟨_, rfl, ?_⟩⟩
      refine ⟨_, rfl, _, rfl, _, _, rfl, rfl, .inr ⟨_, rfl, _, _, rfl, rfl, ?_⟩⟩
      refine ⟨_, rfl, t, _, 0, _, rfl, rfl, ht9, atI_nat (j := 0) rfl, _, rfl, t, _, 1, _, rfl, rfl, ht9, atI_nat (j := 1) rfl, _, _, rfl, rfl, .inr ⟨_, rfl, ?_⟩⟩
      refine ⟨_, rfl, t, _, 0, _, rfl, rfl, ht9, atI_nat (j := 0) rfl, _, rfl, t, _, 1, _, rfl, rfl, ht9, atI_nat (j := 1) rfl, _, _, rfl, rfl, .inr ⟨_, rfl, _, _, rfl, rfl, ?_⟩⟩
      dsimp only
      rw [ordI_eq T1 B1, ordI_eq DT DB]
      refine ⟨z2, fun t6 nt6 => ?_⟩
      have s10 := same_new (o := .tup [V.int (ordI T1 B1), V.int (ordI DT DB)]) nt6
      obtain ⟨r1, r2, r3, r4, r5⟩ := int2_rp (ordI_small T1 B1) (ordI_small DT DB) (sqT_new (K := K) (p := t6) (H := H9))
      refine ⟨t6, _, rfl, r1, r2, r3, r4, r5, rfl, _, rfl, ?_⟩
      rw [no_ne rfl]
      refine iteF ?_
      have s2_10 := s26.trans (s79.trans s10)
      have s4_10 := s46.trans (s79.trans s10)
      clear r1 r2 r3 r4 r5 ht9 s79
      generalize upd H9 t6 (.tup [V.int (ordI T1 B1), V.int (ordI DT DB)]) = H10 at *
      have hb10 := SqT.same s2_10 hb2
      -- a multiple of the sum
      obtain ⟨x1, x2, x3, x4, x5⟩ := (W1.same s2_10).pm (W2.same s2_10) 1 (.inl rfl) (by omega) (by omega)
      refine ⟨_, rfl, _, rfl, b, _, 0, _, rfl, rfl, hb10, atI_nat (j := 0) rfl, v1, v2, _, _, _, rfl, x1, x2, x3, x4, fun vp H11 s11 hvp => ?_⟩
      have Wp := x5 vp H11 hvp
      clear x1 x2 x3 x4 x5
      refine ⟨_, rfl, _, rfl, vp, m1 * m2, _, top, by_, rfl, Wp.val, Wp.bd (by omega) (by omega), by omega, by omega, by omega, by omega, fun vr H12 s12 hvr => ?_⟩
      have Wr := Wp.tm top by_ 6 9 b0 (by omega) (by omega) vr H12 hvr
      obtain ⟨dr, Lr, amr, str⟩ := id Wr.val
      have okr := (Wr.bd (by omega) (by omega)).ok str
      obtain ⟨ra1, re1, rb1, rc1, rd1, rf1, rg1⟩ := okr.rp amr
      refine ⟨ra1, _, by rw [re1], rb1, rc1, rd1, rf1, rg1, ?_⟩
      have s2_12 := s2_10.trans (s11.trans s12)
      have s4_12 := s4_10.trans (s11.trans s12)
      refine ⟨_, rfl, _, rfl, b, _, 0, _, rfl, rfl, SqT.same (s11.trans s12) hb10, atI_nat (j := 0) rfl, _, rfl, _, rfl, v2, m2, lg M2, top, by_, rfl, (W2.same s2_12).val, k2.bd, by omega, by omega, by omega, by omega, fun vs H13 s13 hvs => ?_⟩
      have Ws := (W2.same s2_12).tm top by_ 6 9 b0 (by omega) (by omega) vs H13 hvs
      obtain ⟨x1, x2, x3, x4, x5⟩ := (Wn4.same (s4_12.trans s13)).pm Ws 1 (.inl rfl) (by omega) (by omega)
      refine ⟨vn, vs, _, _, _, rfl, x1, x2, x3, x4, fun vt H14 s14 hvt => ?_⟩
      have amt := (x5 vt H14 hvt).at str Wr.B0 fun p => by
        simp only [lg_append, lg_scl]; grind
      obtain ⟨ra2, re2, rb2, rc2, rd2, rf2, rg2⟩ := okr.rp amt
      refine ⟨ra2, _, by rw [re2], rb2, rc2, rd2, rf2, rg2, rfl, _, rfl, ?_⟩
      rw [no_ne rfl]
      refine iteF ?_
      have s2_14 := s2_12.trans (s13.trans s14)
      clear x1 x2 x3 x4 x5 re1 rb1 re2 rb2 rc1 rd1 rf1 rg1 rc2 rd2 rf2 rg2 amt amr hvt hvs hvr hvp Ws Wr Wp s4_12 s4_10 str okr
      have da14 := da2.same s2_14
      have o14 := oo.trans (Ot.of s2_14)
      -- steps
      refine ⟨_, rfl, D, C, n + 1 + 1, 20, rfl, da14, by omega, by omega, by omega, fun z3 H15 z30 z31 o15 da15 => ?_⟩
      refine ⟨_, _, rfl, rfl, ?_⟩
      obtain ⟨k, hk⟩ : ∃ k : Nat, 1 + z3 = k := ⟨(1 + z3).toNat, by omega⟩
      dsimp only
      rw [hk]
      have k0 : 0 < k := by omega
      have k20 : k ≤ 20 := by omega
      have kp15 := o15.kp da14
      have am15 := (am1.same s2_14).kp kp15
      have fk := fitsK st1 k1 k20
      refine ⟨_, rfl, _, rfl, v1, d1, L1, k, 10, rfl, am15, ok1, k0, by omega, fk, fun e H16 s16 g1 g2 => ?_⟩
      have ss := steps_fit st1 k1.kn g1 g2
      have sz := steps_size st1 k1 g1 g2 k20
      refine ⟨_, rfl, ?_⟩
      walk_at "isint"
      refine ⟨true, rfl, iteF ?_⟩
      refine ⟨_, rfl, _, rfl, v1, d1, L1, k, 10, rfl, am15.same s16, ok1, k0, by omega, fk, fun e2 H17 s17 g3 g4 => ?_⟩
      have lp : ∀ q ∈ L1, 0 < q.1 := fun q hq => (fk.pos q hq).1
      obtain ⟨uk0, dk0⟩ := upk_pos (k := k) lp
      have ee2 : e2 = e := by
        have h1 := (le2_iff uk0 dk0 g1 g2).mp g3
        have h2 := (le2_iff uk0 dk0 g3 g4).mp g1
        omega
      rw [ee2]
      generalize e / d1 = S at *
      have m1n : 0 < m1.toNat := by omega
      have m20n : m1.toNat ≤ 20 := by omega
      have Ss : S.natAbs ≤ 30000 := by
        have : S.natAbs * 1 ≤ S.natAbs * m1.toNat := Nat.mul_le_mul_left _ m1n
        omega
      have slog : S.natAbs.log2 < 1920 := by
        by_cases z : S.natAbs = 0
        · rw [z]; decide
        · have : S.natAbs.log2 < 20 := (Nat.log2_lt z).mpr (by omega)
          omega
      refine ⟨S, rfl, slog, _, rfl, S, rfl, slog, rfl, _, rfl, ?_⟩
      rw [no_ne rfl]
      refine iteF ?_
      refine ⟨_, rfl, z2, fun q1 nq1 => ⟨_, rfl, _, _, rfl, rfl, z2, fun q2 nq2 => ⟨z2, fun q3 nq3 => ?_⟩⟩⟩
      have y1 := same_new (o := .tup [V.int S, V.bl true]) nq1
      have y2 := same_new (o := .tup [V.int (S + 1), V.bl false]) nq2
      have y3 := same_new (o := .tup [V.ref q1, V.ref q2]) nq3
      have hq1 := SqT.same (y2.trans y3) (sqT_new (K := K) (H := H17) (p := q1) (xs := [V.int S, V.bl true]))
      have hq2 := SqT.same y3 (sqT_new (K := K) (H := upd H17 q1 (.tup [V.int S, V.bl true])) (p := q2) (xs := [V.int (S + 1), V.bl false]))
      have hq3 := sqT_new (K := K) (H := upd (upd H17 q1 (.tup [V.int S, V.bl true])) q2 (.tup [V.int (S + 1), V.bl false])) (p := q3) (xs := [V.ref q1, V.ref q2])
      have s15f := s16.trans (s17.trans (y1.trans (y2.trans y3)))
      generalize upd (upd (upd H17 q1 (.tup [V.int S, V.bl true])) q2 (.tup [V.int (S + 1), V.bl false])) q3 (.tup [V.ref q1, V.ref q2]) = Hf at *
      refine ⟨q3, rfl, ⟨_, hq3⟩, ?_⟩
      refine for_tup (xs := [V.ref q1, V.ref q2]) (fun i σ H' => ∃ y13 y14 y15 y16, σ = [some (.ref D), some (.ref a), some (.ref b), some v1, some (.int m1), some (.int T1), some (.int B1), some (.int top), some (.int by_), some vn, some (.ref t), some (.int (k : Int)), some (.int S), y13, y14, y15, y16] ∧ Hf = H') ⟨none, none, none, none, rfl, rfl⟩ ?_ ?_ ?_
      · rintro i σ H' _ ⟨_, _, _, _, _, rfl⟩; exact hq3
      · rintro i x σ H' hx ⟨y13, y14, y15, y16, rfl, rfl⟩
        obtain ⟨qq, s, bb, rfl, hqq, hs, hfit⟩ : ∃ qq s bb, x = V.ref qq ∧ SqT K Hf qq [V.int s, V.bl bb] ∧ s.natAbs * m1.toNat ≤ 30020 ∧ decide (2 ^ (s.toNat * m1.toNat) * B1 ^ k ≤ 2 ^ ((-s).toNat * m1.toNat) * T1 ^ k) = bb := by
          match i, hx with
          | 0, hx =>
            exact ⟨q1, S, true, (Option.some.inj hx).symm, hq1, by omega, decide_eq_true ((ss S).mpr (Int.le_refl _))⟩
          | 1, hx =>
            refine ⟨q2, S + 1, false, (Option.some.inj hx).symm, hq2, ?_, decide_eq_false fun z => by have := (ss (S + 1)).mp z; omega⟩
            have : (S + 1).natAbs * m1.toNat ≤ (S.natAbs + 1) * m1.toNat := Nat.mul_le_mul_right _ (by omega)
            rw [Nat.add_mul] at this; omega
          | j + 2, hx => cases hx
        have mx : ∀ z : Int, (if z > 0 then z else 0) * m1 = ((z.toNat * m1.toNat : Nat) : Int) := fun z => by
          rw [Int.natCast_mul]
          congr 1
          · split <;> omega
          · omega
        have zs : s.natAbs ≤ 30020 := by
          have : s.natAbs * 1 ≤ s.natAbs * m1.toNat := Nat.mul_le_mul_left _ m1n
          omega
        have e1 : s.toNat * m1.toNat ≤ 30020 := Nat.le_trans (Nat.mul_le_mul_right _ (by omega)) hs
        have e2 : (-s).toNat * m1.toNat ≤ 30020 := Nat.le_trans (Nat.mul_le_mul_right _ (by omega)) hs
        have w2 : ∀ j : Nat, ((2 : Int) ^ j).natAbs < 2 ^ (2 * j + 1) := fun j => pow_bits (by decide) j
        have wB := pow_bits Bb k
        have wT := pow_bits Tb k
        refine ⟨qq, _, rfl, hqq, rfl, _, _, rfl, _, [], rfl, rfl, ?_⟩
        refine ⟨_, rfl, 0, s, rfl, _, rfl, _, _, rfl, rfl, wide_mul (a := 20) (b := 20) (by split <;> omega) (by omega) (by omega) (by omega) (by omega), 2, s.toNat * m1.toNat, 2, by rw [← mx]; rfl, by decide, by omega, by omega, ?_⟩
        refine ⟨_, rfl, _, rfl, B1, k, 600, rfl, Bb, by omega, by omega, _, _, rfl, rfl, wide_mul (w2 _) wB (by omega) (by omega) (by omega), ?_⟩
        refine ⟨_, rfl, _, rfl, 0, -s, rfl, _, rfl, _, _, rfl, rfl, wide_mul (a := 20) (b := 20) (by split <;> omega) (by omega) (by omega) (by omega) (by omega), 2, (-s).toNat * m1.toNat, 2, by rw [← mx]; rfl, by decide, by omega, by omega, ?_⟩
        refine ⟨_, rfl, _, rfl, T1, k, 600, rfl, Tb, by omega, by omega, _, _, rfl, rfl, wide_mul (w2 _) wT (by omega) (by omega) (by omega), ?_⟩
        refine ⟨_, rfl, _, rfl, _, _, rfl, rfl, _, rfl, rfl, _, rfl, ?_⟩
        have hb : (!decide (V.bl (decide (2 ^ (s.toNat * m1.toNat) * B1 ^ k ≤ 2 ^ ((-s).toNat * m1.toNat) * T1 ^ k)) = V.bl bb)) = false := by rw [hfit]; simp
        rw [hb]
        exact iteF ⟨_, _, _, _, rfl, rfl⟩
      · rintro σ H' ⟨_, _, _, _, rfl, rfl⟩
        exact q _ ((o14.trans o15).trans (Ot.of s15f)) ((da15.mono (by omega)).same s15f)
end
end K02

namespace K02
open PySem PySem.Spec PyProof.Rows L2 Ly Am
theorem dw_log {n : Nat} (h0 : 0 < n) (h1 : n ≤ 1000) : Dw 1 n 1 [(1, (n : Int))] := by
  have k := dw_num (n := n) (t := 1) (b := 1) (by omega) (by omega) (.inl ⟨rfl, rfl⟩)
  rw [if_pos (by omega), if_pos (by omega), show (1 : Int).toNat = 1 from rfl, Int.pow_succ, Int.pow_zero, Int.one_mul] at k
  exact k
theorem below_num {A B : Nat} (a0 : 0 < A) (a1 : A ≤ 1000) (b0 : 0 < B) (b1 : B ≤ 1000) :
    Bd (1 * 1) (fun p => lg (scl 1 [(1, (A : Int))]) p + -1 * lg (scl 1 [(1, (B : Int))]) p) ∧ ∀ d L, St4 d L (1 * 1) (fun p => lg (scl 1 [(1, (A : Int))]) p + -1 * lg (scl 1 [(1, (B : Int))]) p) → Fits 10 1 L ∧ decide (up 1 L < dn 1 L) = decide ((A : Int) < (B : Int)) := by
  have kA := dw_log a0 a1
  have kB := dw_log b0 b1
  obtain ⟨z1, z2⟩ := below_ok (m1 := 1) (m2 := 1) (by omega) (by omega) (by omega) (by omega) kA.num kB.num kA.wg kB.wg
  refine ⟨z1, fun d L st => ⟨(z2 d L st).1, decide_eq_decide.mpr ?_⟩⟩
  have X0 : (0 : Int) < (A : Int) ^ (1 : Int).toNat * 1 ^ (1 : Int).toNat := Int.mul_pos (ipp _ (by omega)) (ipp _ (by omega))
  have Y0 : (0 : Int) < (B : Int) ^ (1 : Int).toNat * 1 ^ (1 : Int).toNat := Int.mul_pos (ipp _ (by omega)) (ipp _ (by omega))
  have s := (sgn_of (z2 d L st).2 (by omega) X0 Y0 (two_vi kA.kn kB.kn)).1
  rw [s, show (1 : Int).toNat = 1 from rfl, Int.pow_succ, Int.pow_zero, Int.one_mul, Int.pow_succ, Int.pow_zero, Int.one_mul, Int.pow_succ, Int.pow_zero, Int.one_mul, Int.mul_one, Int.mul_one]
section
variable {P : Program} {w : World} {K : PySem.W.Frag} {mg : Str → Option Value} {base : Heap}
def spLogs (K : PySem.W.Frag) : Sp := fun vs H Q _ => ∃ (D C : Addr) (n : Nat), vs = [.ref D] ∧ DeckAt H D C n ∧ n < 2 ^ 28 ∧ ∀ H', Ot D C H H' → DeckAt H' D C (n + 10) → Q (.bl true) H'
theorem ca_L_are_logarithms_right (T : Tx K mg) : CaG P w K mg base 8 "_law_are_logarithms_right" s_L_are_logarithms_right ["_law_deck_here"] (spLogs K) := by
  have C_L_draw := ca_L_draw (P := P) (w := w) (base := base) T
  have C_L_power := ca_L_power (P := P) (w := w) (base := base) T
  have C_plus := ca_plus (P := P) (w := w) (base := base) T
  have C_times := ca_times (P := P) (w := w) (base := base) T
  have C_amount_of := ca_amount_of (P := P) (w := w) (base := base) T
  have C_is_below := ca_is_below (P := P) (w := w) (base := base) T
  refine CaG.of (fd_L_are_logarithms_right T) sc_L_are_logarithms_right ?_ ?_
  · rintro vs H Q E ⟨D, C, n, rfl, _⟩; rfl
  · rintro f cdv A out s H vs Q E hgd hr ⟨D, C, n, rfl, da, hn, q⟩
    refine ⟨_, (pss_cons (ps_par3 (i := 1) (j := 2) (l := 3) rfl sc_L_are_logarithms_right.nd rfl rfl rfl (by decide) (by decide) (by decide) rfl rfl rfl (pa_cons (pe_op op_add pe_int (pe_ca C_L_draw hr (pa_cons (pv 0) (pa_cons pe_int pa_nil)))) (pa_cons (pe_op op_add pe_int (pe_ca C_L_draw hr (pa_cons (pv 0) (pa_cons pe_int pa_nil)))) (pa_cons (pe_ca C_L_draw hr (pa_cons (pv 0) (pa_cons pe_int pa_nil))) pa_nil))) rfl)
 (pss_cons (ps_if (pt_cmpR op_ne (pe_callB (cr_repr hgd hr.units) (by rfl) T.f_repr (by decide +kernel) (pa_cons (pe_ca C_plus hr (pa_cons (pe_ca C_amount_of hr (pa_cons (pv 1) pa_nil)) (pa_cons (pe_caK ["number"] C_amount_of hr (pk_cons (pv 2) pk_nil) (fun _ _ _ _ _ _ us ws hl => match us, ws, hl with | [], [_], _ => rfl | [_], [], _ => rfl)) pa_nil))) pa_nil)) (pe_callB (cr_repr hgd hr.units) (by rfl) T.f_repr (by decide +kernel) (pa_cons (pe_ca C_amount_of hr (pa_cons (pe_op op_mulW (pv 1) (pv 2)) pa_nil)) pa_nil)) (nomark _))
 (pss_one (ps_ret pe_bl))
 pss_nil)
 (pss_cons (ps_set (i := 4) sc_L_are_logarithms_right.nd rfl (.inl rfl) (pe_op op_add pe_int (pe_op op_mod (pe_callTy call_int1 (by rfl) T.f_int (by decide +kernel) (pa_cons (pv 1) pa_nil)) pe_int)))
 (pss_cons (ps_if (pt_cmpR op_ne (pe_callB (cr_repr hgd hr.units) (by rfl) T.f_repr (by decide +kernel) (pa_cons (pe_ca C_times hr (pa_cons (pe_ca C_amount_of hr (pa_cons (pv 4) pa_nil)) (pa_cons (pv 3) (pa_cons pe_int pa_nil)))) pa_nil)) (pe_callB (cr_repr hgd hr.units) (by rfl) T.f_repr (by decide +kernel) (pa_cons (pe_ca C_amount_of hr (pa_cons (pe_ca C_L_power hr (pa_cons (pv 4) (pa_cons (pv 3) pa_nil))) pa_nil)) pa_nil)) (nomark _))
 (pss_one (ps_ret pe_bl))
 pss_nil)
 (pss_one (ps_ret (pe_and (pe_cmpR op_eq (pe_ca C_is_below hr (pa_cons (pe_ca C_amount_of hr (pa_cons (pv 1) pa_nil)) (pa_cons (pe_ca C_amount_of hr (pa_cons (pv 2) pa_nil)) pa_nil))) (pe_cmpR op_lt (pv 1) (pv 2) (nomark _)) (nomark _)) (pe_one (pe_cmpR op_eq (pe_ca C_is_below hr (pa_cons (pe_ca C_amount_of hr (pa_cons pe_int pa_nil)) (pa_cons (pe_ca C_amount_of hr (pa_cons (pv 2) pa_nil)) pa_nil))) (pe_cmpR op_gt (pv 2) pe_int (nomark _)) (nomark _)))))))))), ?_⟩
    refine ⟨_, rfl, D, C, n, 900, rfl, da, by omega, by omega, by omega, fun z1 H1 z10 z11 o1 da1 => ⟨_, _, rfl, rfl, ?_⟩⟩
    refine ⟨_, rfl, D, C, n + 1, 900, rfl, da1, by omega, by omega, by omega, fun z2 H2 z20 z21 o2 da2 => ⟨_, _, rfl, rfl, ?_⟩⟩
    refine ⟨_, rfl, D, C, n + 1 + 1, 5, rfl, da2, by omega, by omega, by omega, fun z3 H3 z30 z31 o3 da3 => ?_⟩
    refine ⟨_, _, _, rfl, ?_⟩
    obtain ⟨a, ha⟩ : ∃ a : Nat, 1 + z1 = a := ⟨(1 + z1).toNat, by omega⟩
    obtain ⟨b, hb⟩ : ∃ b : Nat, 1 + z2 = b := ⟨(1 + z2).toNat, by omega⟩
    obtain ⟨k, rfl⟩ : ∃ k : Nat, z3 = k := ⟨z3.toNat, by omega⟩
    dsimp only
    rw [ha, hb]
    have a0 : 0 < a := by omega
    have a9 : a ≤ 900 := by omega
    have b0 : 0 < b := by omega
    have b9 : b ≤ 900 := by omega
    have k4 : k ≤ 4 := by omega
    have da4 := da3.mono (show n + 1 + 1 + 1 ≤ n + 10 by omega)
    have o4 := (o1.trans o2).trans o3
    generalize H3 = H4 at *
    clear da da1 da2 da3 o1 o2 o3
    have kA := dw_log a0 (by omega)
    have kB := dw_log b0 (by omega)
    -- the product
    refine ⟨_, rfl, a, rfl, a0, by omega, fun va da_ La H5 s5 ama sta => ?_⟩
    refine ⟨_, rfl, b, rfl, b0, by omega, fun vb db_ Lb H6 s6 amb stb => ?_⟩
    have Wa := kA.wv (⟨da_, La, ama.same s6, sta⟩ : Val K H6 va 1 (lg [(1, (a : Int))]))
    have Wb := kB.wv (⟨db_, Lb, amb, stb⟩ : Val K H6 vb 1 (lg [(1, (b : Int))]))
    obtain ⟨x1, x2, x3, x4, x5⟩ := Wa.pm Wb 1 (.inl rfl) (by omega) (by omega)
    refine ⟨va, vb, _, _, _, rfl, x1, x2, x3, x4, fun vp H7 s7 hvp => ?_⟩
    have Wp := x5 vp H7 hvp
    obtain ⟨dp, Lp, amp, stp⟩ := id Wp.val
    have okp := (Wp.bd (by omega) (by omega)).ok stp
    obtain ⟨ra1, re1, rb1, rc1, rd1, rf1, rg1⟩ := okp.rp amp
    refine ⟨ra1, _, by rw [re1], rb1, rc1, rd1, rf1, rg1, ?_⟩
    have ab9 : a * b ≤ 900 * 900 := Nat.mul_le_mul a9 b9
    have ab0 : 0 < a * b := Nat.mul_pos a0 b0
    refine ⟨_, rfl, _, rfl, _, _, rfl, rfl, wide_mul (a := 20) (b := 20) (by omega) (by omega) (by omega) (by omega) (by omega), a * b, by show [V.int ((a : Int) * b)] = _; rw [Int.natCast_mul], ab0, by omega, fun vc dc Lc H8 s8 amc stc => ?_⟩
    obtain ⟨g1, g2⟩ := St4.unique stc stp (by omega) (by omega) fun p => by
      show lg [(1, ((a * b : Nat) : Int))] p * (1 * 1) = _ * 1
      rw [lg_append, lg_scl, lg_scl]
      by_cases hp : ∃ n : Nat, p = n ∧ Pr n
      · obtain ⟨m, rfl, pr⟩ := hp
        rw [lg_pr _ pr, lg_pr _ pr, lg_pr _ pr, Int.natCast_mul]
        show (1 * vi m ((a : Int) * b) + 0) * (1 * 1) = (1 * (1 * vi m a + 0) + 1 * 1 * (1 * vi m b + 0)) * 1
        rw [vi_mul pr (by omega) (by omega)]; omega
      · rw [lg_no _ hp, lg_no _ hp, lg_no _ hp]; simp
    subst g1 g2
    obtain ⟨ra2, re2, rb2, rc2, rd2, rf2, rg2⟩ := okp.rp amc
    refine ⟨ra2, _, by rw [re2], rb2, rc2, rd2, rf2, rg2, rfl, _, rfl, ?_⟩
    rw [no_ne rfl]
    refine iteF ?_
    have s48 := s5.trans (s6.trans (s7.trans s8))
    clear re1 rb1 re2 rb2 rc1 rd1 rf1 rg1 rc2 rd2 rf2 rg2 x1 x2 x3 x4 x5 Wa Wb Wp amc amp hvp stc okp stp ama amb sta stb
    -- the power
    refine ⟨_, rfl, .inl ⟨_, rfl, ?_⟩⟩
    refine ⟨_, _, rfl, rfl, by show (0 : Int) < 25; decide, _, _, rfl, rfl, ?_⟩
    obtain ⟨c, hc⟩ : ∃ c : Nat, 1 + (a : Int) % 25 = c := ⟨(1 + (a : Int) % 25).toNat, by omega⟩
    dsimp only
    rw [hc]
    have c0 : 0 < c := by omega
    have c25 : c ≤ 25 := by omega
    have kC := dw_log c0 (by omega)
    refine ⟨_, rfl, c, rfl, c0, by omega, fun vs ds Ls H9 s9 ams sts => ?_⟩
    have Wc := kC.wv (⟨ds, Ls, ams, sts⟩ : Val K H9 vs 1 (lg [(1, (c : Int))]))
    refine ⟨_, rfl, vs, 1, lg [(1, (c : Int))], k, 1, rfl, Wc.val, kC.bd, by omega, by omega, by omega, by omega, fun vt H10 s10 hvt => ?_⟩
    have Wt := Wc.tm k 1 4 1 (by omega) (by omega) (by omega) vt H10 hvt
    obtain ⟨dt, Lt, amt, stt⟩ := id Wt.val
    have okt := (Wt.bd (by omega) (by omega)).ok stt
    obtain ⟨ra1, re1, rb1, rc1, rd1, rf1, rg1⟩ := okt.rp amt
    refine ⟨ra1, _, by rw [re1], rb1, rc1, rd1, rf1, rg1, ?_⟩
    have ck : c ^ k ≤ 25 ^ 4 := Nat.le_trans (Nat.pow_le_pow_left c25 k) (Nat.pow_le_pow_right (by omega) k4)
    have ck0 : 0 < c ^ k := Nat.pow_pos c0
    refine ⟨_, rfl, _, rfl, c, k, 5, rfl, by omega, by omega, by omega, c ^ k, by show [V.int ((c : Int) ^ k)] = _; rw [Int.natCast_pow], ck0, by omega, fun vu du Lu H11 s11 amu stu => ?_⟩
    obtain ⟨g1, g2⟩ := St4.unique stu stt (by omega) (by omega) fun p => by
      show lg [(1, ((c ^ k : Nat) : Int))] p * (1 * 1) = _ * 1
      rw [lg_scl]
      by_cases hp : ∃ n : Nat, p = n ∧ Pr n
      · obtain ⟨m, rfl, pr⟩ := hp
        rw [lg_pr _ pr, lg_pr _ pr, Int.natCast_pow]
        show (1 * vi m ((c : Int) ^ k) + 0) * (1 * 1) = (k : Int) * (1 * vi m c + 0) * 1
        rw [vi_pow pr (by omega)]; grind
      · rw [lg_no _ hp, lg_no _ hp]; simp
    subst g1 g2
    obtain ⟨ra2, re2, rb2, rc2, rd2, rf2, rg2⟩ := okt.rp amu
    refine ⟨ra2, _, by rw [re2], rb2, rc2, rd2, rf2, rg2, rfl, _, rfl, ?_⟩
    rw [no_ne rfl]
    refine iteF ?_
    have s4_11 := s48.trans (s9.trans (s10.trans s11))
    clear re1 rb1 re2 rb2 rc1 rd1 rf1 rg1 rc2 rd2 rf2 rg2 Wc Wt amt amu hvt stt okt stu ams sts s48
    -- which is less
    obtain ⟨z1, z2⟩ := below_num a0 (by omega) b0 (by omega)
    refine ⟨_, rfl, a, rfl, a0, by omega, fun va da_ La H12 s12 ama sta => ?_⟩
    refine ⟨_, rfl, b, rfl, b0, by omega, fun vb db_ Lb H13 s13 amb stb => ?_⟩
    have Wa := kA.wv (⟨da_, La, ama.same s13, sta⟩ : Val K H13 va 1 (lg [(1, (a : Int))]))
    have Wb := kB.wv (⟨db_, Lb, amb, stb⟩ : Val K H13 vb 1 (lg [(1, (b : Int))]))
    obtain ⟨x1, x2, x3, x4, x5⟩ := Wa.pm Wb (-1) (.inr rfl) (by omega) (by omega)
    refine ⟨va, vb, _, _, _, 10, rfl, x1, x2, x3, x4, z1, fun d L st => (z2 d L st).1, fun d5 L5 H14 s14 st5 => ?_⟩
    rw [(z2 d5 L5 st5).2]
    refine ⟨_, rfl, _, rfl, _, _, rfl, rfl, rfl, _, rfl, ?_⟩
    rw [if_pos (decide_eq_true rfl)]
    have s4_14 := s4_11.trans (s12.trans (s13.trans s14))
    clear x1 x2 x3 x4 x5 Wa Wb z1 z2 ama amb sta stb st5
    have k1 := dw_log (n := 1) (by omega) (by omega)
    obtain ⟨z1, z2⟩ := below_num (A := 1) (by omega) (by omega) b0 (by omega)
    refine ⟨1, rfl, by omega, by omega, fun va da_ La H15 s15 ama sta => ?_⟩
    refine ⟨_, rfl, b, rfl, b0, by omega, fun vb db_ Lb H16 s16 amb stb => ?_⟩
    have Wa := k1.wv (⟨da_, La, ama.same s16, sta⟩ : Val K H16 va 1 (lg [(1, ((1 : Nat) : Int))]))
    have Wb := kB.wv (⟨db_, Lb, amb, stb⟩ : Val K H16 vb 1 (lg [(1, (b : Int))]))
    obtain ⟨x1, x2, x3, x4, x5⟩ := Wa.pm Wb (-1) (.inr rfl) (by omega) (by omega)
    refine ⟨va, vb, _, _, _, 10, rfl, x1, x2, x3, x4, z1, fun d L st => (z2 d L st).1, fun d5 L5 H17 s17 st5 => ?_⟩
    rw [(z2 d5 L5 st5).2]
    have z := q H17 (o4.trans (Ot.of (s4_14.trans (s15.trans (s16.trans s17))))) (da4.same (s4_14.trans (s15.trans (s16.trans s17))))
    refine ⟨_, rfl, _, _, rfl, rfl, rfl, ?_⟩
    have e : decide (V.bl (decide (((1 : Nat) : Int) < (b : Int))) = V.bl (decide ((1 : Int) < (b : Int)))) = true := decide_eq_true rfl
    rw [e]
    exact z
end
end K02

namespace K02
open PySem PySem.Spec PyProof.Rows L2 Ly Am
theorem Wv.bdpm {K : PySem.W.Frag} {H : Hp} {v1 v2 : V} {B1 B2 : Int} {M1 M2 : List (Int × Int)} {b1 w1 b2 w2 : Nat} (h1 : Wv K H v1 B1 M1 b1 w1) (h2 : Wv K H v2 B2 M2 b2 w2) (s : Int) (hs : s = 1 ∨ s = -1) (hb : b1 * b2 < 2 ^ 40) (hw : b2 * w1 + b1 * w2 < 2 ^ 40) :
    Bd (B1 * B2) (fun p => lg (scl B2 M1) p + s * lg (scl B1 M2) p) := by
  have p1 := h1.B0
  have p2 := h2.B0
  have l1 := h1.bl
  have l2 := h2.bl
  have bb : B1 * B2 ≤ ((b1 * b2 : Nat) : Int) := by
    rw [Int.natCast_mul]
    exact Int.mul_le_mul l1 l2 (by omega) (by omega)
  have e1 : wgt (scl B2 M1) ≤ b2 * w1 := by rw [wgt_scl]; exact Nat.mul_le_mul (by omega) h1.wl
  have e3 : wgt (scl (s * B1) M2) ≤ b1 * w2 := by
    rw [wgt_scl]
    exact Nat.mul_le_mul (by rcases hs with h | h <;> (rw [h]; omega)) h2.wl
  rw [lg_pm]
  refine bdL (Int.mul_pos p1 p2) (by omega) (fun q hq => ?_) (by rw [wgt_app]; omega)
  rcases List.mem_append.mp hq with h | h
  · exact scl_num h1.num q h
  · exact scl_num h2.num q h
section
variable {P : Program} {w : World} {K : PySem.W.Frag} {mg : Str → Option Value} {base : Heap}
def spPickL (K : PySem.W.Frag) : Sp := fun vs H Q _ => ∃ (D C a : Addr) (n : Nat) (xs : List V), vs = [.ref D, .ref a] ∧ DeckAt H D C n ∧ n < 2 ^ 29 ∧ H a = some (.lst xs) ∧ a ≠ D ∧ a ≠ C ∧ 0 < xs.length ∧ xs.length ≤ 1000 ∧
  ∀ (i : Nat) (x : V) H', xs[i]? = some x → Ot D C H H' → DeckAt H' D C (n + 1) → Q x H'
theorem ca_L_pickL (T : Tx K mg) : Ca P w K mg base 2 "_law_pick" s_L_pick ["_law_deck_here", "_law_some"] (spPickL K) := by
  have C_L_draw := ca_L_draw (P := P) (w := w) (base := base) T
  refine Ca.of (fd_L_pick T) sc_L_pick ?_ ?_
  · rintro vs H Q E ⟨D, C, a, n, xs, rfl, _⟩; rfl
  · rintro f cdv A out s H vs Q E hr ⟨D, C, a, n, xs, rfl, da, hn, hT, aD, aC, l0, l1, q⟩
    refine ⟨_, (pss_one (ps_ret (pe_ix ix_list (pv 1) (pe_ca C_L_draw hr (pa_cons (pv 0) (pa_cons (pe_callB call_len_seq (by rfl) T.f_len (by decide +kernel) (pa_cons (pv 1) pa_nil)) pa_nil))) (fun _ _ => rfl)))), ?_⟩
    refine ⟨_, rfl, _, rfl, _, rfl, a, xs, rfl, .inl (.inl (.inl hT)), D, C, n, xs.length, rfl, da, by omega, by omega, by omega, fun r H' r0 r1 o da' => ?_⟩
    obtain ⟨i, rfl⟩ : ∃ i : Nat, r = i := ⟨r.toNat, by omega⟩
    have hi : i < xs.length := by omega
    have hx : xs[i]? = some xs[i] := List.getElem?_eq_getElem hi
    exact ⟨a, _, (i : Int), _, rfl, rfl, .inl (.inl (o _ _ hT aD aC)), atI_nat hx, q i _ H' hx o da'⟩
/-- a drawn amount with what it stands for, on the heap -/
def DrAt (K : PySem.W.Frag) (H : Hp) (r : Addr) : Prop := ∃ v m T B M, SqT K H r [v, .int m, .int T, .int B] ∧ Val K H v m (lg M) ∧ Dw m T B M
theorem DrAt.kp {H H' : Hp} {r : Addr} (s : Kp H H') (h : DrAt K H r) : DrAt K H' r := by
  obtain ⟨v, m, T, B, M, h1, h2, h3⟩ := h
  exact ⟨v, m, T, B, M, SqT.kp s h1, h2.kp s, h3⟩
theorem fnG_ofN {x : Str} {st : Stmt} {N ps : List Str} {k : Nat} {sp : Sp} {f : Addr} {fd : FuncData} (F : FnP K x st f fd) (S : FnScope N ps (defScope st))
    (len : ∀ vs H Q E, sp vs H Q E → vs.length = ps.length)
    (hb : ∀ (cdv : Value) (A : Around) (out : List Env) (s : Shared) (H : Hp) (vs : List V) (Q : VK) (E : XK),
      A.guards = some [] → Room k (A.deeper (envOfC x (defScope st) s.heap.objs.size f cdv)) → sp vs H Q E →
      ∃ t, PSs (cxOf CX0 P w K mg base N x (defScope st) f cdv A out s H E).nox (defBody st) t ∧
        t { nx := fun _ H' => Q .non H', rt := Q } (start N vs) H) :
    FnG P w K mg base CX0 (k + 1) f fd ps sp := by
  refine fnG_of F S len ?_
  intro cdv A out s H vs Q E hgd hr h
  obtain ⟨t, h1, h2⟩ := hb cdv A out s H vs Q E hgd hr h
  exact ⟨t, h1.nox, h2⟩
def spLaw (K : PySem.W.Frag) : Sp := fun vs H Q _ => ∃ (a : Addr) (ns : List Int), vs = [.ref a] ∧ SqL K H a (ns.map V.int) ∧ ns.length ≤ 63 ∧ ∀ H', Q (.bl true) H'
theorem law_fn (T : Tx K mg) {f : Addr} {fd : FuncData} (F : FnP K "law" s_law f fd) : FnG P w K mg base CX0 10 f fd ["_law_script"] (spLaw K) := by
  have C_L_deck := ca_L_deck (P := P) (w := w) (base := base) T
  have C_L_pick := ca_L_pickL (P := P) (w := w) (base := base) T
  have C_L_drawn := ca_L_drawn (P := P) (w := w) (base := base) T
  have C_L_stands := ca_L_stands (P := P) (w := w) (base := base) T
  have C_is_amount := ca_is_amount (P := P) (w := w) (base := base) T
  have C_L_is_two_right := ca_L_is_two_right (P := P) (w := w) (base := base) T
  have C_L_is_multiple_right := ca_L_is_multiple_right (P := P) (w := w) (base := base) T
  have C_L_are_logarithms_right := ca_L_are_logarithms_right (P := P) (w := w) (base := base) T
  have C_L_is_near_enough := ca_L_is_near_enough (P := P) (w := w) (base := base) T
  have C_plus := ca_plus (P := P) (w := w) (base := base) T
  have C_is_below := ca_is_below (P := P) (w := w) (base := base) T
  refine fnG_ofN F sc_law ?_ ?_
  · rintro vs H Q E ⟨a, ns, rfl, _⟩; rfl
  · rintro cdv A out s H vs Q E hgd hr ⟨a, ns, rfl, hS, hl, q⟩
    refine ⟨_, (pss_cons (ps_set (i := 1) sc_law.nd rfl (.inr rfl) (pe_ca C_L_deck hr (pa_cons (pv 0) pa_nil)))
 (pss_cons (ps_setLc (i := 3) (own := [("_law_turn", 2)]) rfl sc_law.nd rfl rfl (sw_true rfl rfl rfl (by decide +kernel)) (pi_range1 (by rfl) T.f_range (pa_cons pe_int pa_nil)) (blkOk_by (own := [("_law_turn", 2)]) (N := n_law) (sc := (defScope s_law)) (by decide +kernel)) (fun _ _ _ _ _ => (pg_name (i := 2) sc_law.nd rfl (Or.inl rfl) (Or.inr rfl))) (fun _ _ _ _ _ => pts_nil) (fun _ _ _ _ _ => (pe_ca C_L_drawn hr (pa_cons (pv 1) pa_nil))))
 (pss_cons (ps_for PassesOwn.never rfl (pi_list (pv 3)) (pg_name (i := 4) sc_law.nd rfl (.inl rfl))
 (pss_one (ps_if (PW.pt (pw_or (pt_not (pt_val (pe_ca C_L_stands hr (pa_cons (pe_ix ix_tup (pv 4) pe_int (fun _ _ => rfl)) (pa_cons (pe_ix ix_tup (pv 4) pe_int (fun _ _ => rfl)) (pa_cons (pe_ix ix_tup (pv 4) pe_int (fun _ _ => rfl)) (pa_cons (pe_ix ix_tup (pv 4) pe_int (fun _ _ => rfl)) pa_nil))))))) (pw_or1 (pt_cmpR op_notBl (pe_ca C_is_amount hr (pa_cons (pe_ix ix_tup (pv 4) pe_int (fun _ _ => rfl)) pa_nil)) pe_bl (nomark _)))))
 (pss_one (ps_ret pe_bl))
 pss_nil)))
 (pss_cons (ps_for PassesOwn.never rfl (pi_range1 (by rfl) T.f_range (pa_cons pe_int pa_nil)) (pg_name (i := 2) sc_law.nd rfl (.inl rfl))
 (pss_cons (ps_par3 (i := 4) (j := 5) (l := 6) rfl sc_law.nd rfl rfl rfl (by decide) (by decide) (by decide) rfl rfl rfl (pa_cons (pe_ca C_L_pick hr (pa_cons (pv 1) (pa_cons (pv 3) pa_nil))) (pa_cons (pe_ca C_L_pick hr (pa_cons (pv 1) (pa_cons (pv 3) pa_nil))) (pa_cons (pe_ca C_L_pick hr (pa_cons (pv 1) (pa_cons (pv 3) pa_nil))) pa_nil))) rfl)
 (pss_cons (ps_if (PW.pt (pw_or (pt_not (pt_val (pe_caG C_L_is_two_right hgd hr (pa_cons (pv 4) (pa_cons (pv 5) pa_nil))))) (pw_or1 (pt_not (pt_val (pe_caG C_L_is_multiple_right hgd hr (pa_cons (pv 1) (pa_cons (pv 4) (pa_cons (pv 5) pa_nil)))))))))
 (pss_one (ps_ret pe_bl))
 pss_nil)
 (pss_cons (ps_if (pt_cmpR op_ne (pe_callB (cr_repr hgd hr.units) (by rfl) T.f_repr (by decide +kernel) (pa_cons (pe_ca C_plus hr (pa_cons (pe_ca C_plus hr (pa_cons (pe_ix ix_tup (pv 4) pe_int (fun _ _ => rfl)) (pa_cons (pe_ix ix_tup (pv 5) pe_int (fun _ _ => rfl)) pa_nil))) (pa_cons (pe_ix ix_tup (pv 6) pe_int (fun _ _ => rfl)) pa_nil))) pa_nil)) (pe_callB (cr_repr hgd hr.units) (by rfl) T.f_repr (by decide +kernel) (pa_cons (pe_ca C_plus hr (pa_cons (pe_ix ix_tup (pv 4) pe_int (fun _ _ => rfl)) (pa_cons (pe_ca C_plus hr (pa_cons (pe_ix ix_tup (pv 6) pe_int (fun _ _ => rfl)) (pa_cons (pe_ix ix_tup (pv 5) pe_int (fun _ _ => rfl)) pa_nil))) pa_nil))) pa_nil)) (nomark _))
 (pss_one (ps_ret pe_bl))
 pss_nil)
 (pss_cons (ps_if (pt_not (pt_val (pe_ca C_L_is_near_enough hr (pa_cons (pe_ix ix_tup (pv 4) pe_int (fun _ _ => rfl)) (pa_cons (pe_ix ix_tup (pv 5) pe_int (fun _ _ => rfl)) pa_nil)))))
 (pss_one ps_continue)
 pss_nil)
 (pss_cons (ps_if (PW.pt (pw_and (pt_val (pe_ca C_is_below hr (pa_cons (pe_ix ix_tup (pv 4) pe_int (fun _ _ => rfl)) (pa_cons (pe_ix ix_tup (pv 5) pe_int (fun _ _ => rfl)) pa_nil)))) (pw_and1 (pt_not (pt_val (pe_ca C_is_below hr (pa_cons (pe_ca C_plus hr (pa_cons (pe_ix ix_tup (pv 4) pe_int (fun _ _ => rfl)) (pa_cons (pe_ix ix_tup (pv 6) pe_int (fun _ _ => rfl)) pa_nil))) (pa_cons (pe_ca C_plus hr (pa_cons (pe_ix ix_tup (pv 6) pe_int (fun _ _ => rfl)) (pa_cons (pe_ix ix_tup (pv 5) pe_int (fun _ _ => rfl)) pa_nil))) pa_nil))))))))
 (pss_one (ps_ret pe_bl))
 pss_nil)
 (pss_one (ps_if (pt_not (pt_val (pe_caG C_L_are_logarithms_right hgd hr (pa_cons (pv 1) pa_nil))))
 (pss_one (ps_ret pe_bl))
 pss_nil))))))))
 (pss_one (ps_ret pe_bl)))))), ?_⟩
    refine ⟨_, rfl, a, ns, rfl, hS, hl, fun D C H1 s1 da1 => ?_⟩
    refine ⟨(5 : Nat), rfl, by omega, by omega, fun Dl nDl => ?_⟩
    have nD1 : Dl ≠ D := by rintro rfl; obtain ⟨_, _, _, h, _⟩ := da1.ex; rw [h] at nDl; cases nDl
    have nD2 : Dl ≠ C := by rintro rfl; obtain ⟨_, _, _, _, h, _⟩ := da1.ex; rw [h] at nDl; cases nDl
    refine lc_range (lo := 0) (n := (5 : Nat)) (fun i H' => ∃ rs : List Addr, DeckAt H' D C (10 * i) ∧ H' Dl = some (.lst (rs.map V.ref)) ∧ rs.length = i ∧ ∀ r ∈ rs, DrAt K H' r) ?_ ?_ ?_
    · exact ⟨[], da1.same (same_new nDl), upd_same, rfl, by simp⟩
    · rintro i H' hi ⟨rs, da', hD, rl, rok⟩
      refine ⟨rfl, ?_⟩
      refine ⟨_, rfl, D, C, 10 * i, rfl, da', by omega, fun t v m Tt Bb M H3 o3 da3 hT hV hd => ?_⟩
      have hD3 := o3 _ _ hD nD1 nD2
      refine ⟨_, hD3, by rw [List.length_map]; exact small1000 (by omega), rs ++ [t], ?_, ?_, ?_, ?_⟩
      · obtain ⟨cs, m, k, hh1, hh2, r⟩ := da3.ex
        exact ⟨cs, m, k, by rw [upd_ne (Ne.symm nD1)]; exact hh1, by rw [upd_ne (Ne.symm nD2)]; exact hh2, r⟩
      · rw [upd_same, List.map_append]; rfl
      · rw [List.length_append, rl]; rfl
      · have kp1 : Kp H3 (upd H3 Dl (.lst (rs.map V.ref ++ [V.ref t]))) := fun b o e n1 _ => by
          by_cases h : b = Dl
          · subst h; rw [hD3] at e; exact absurd (Option.some.inj e).symm (n1 _)
          · rw [upd_ne h]; exact e
        intro r hr2
        rcases List.mem_append.mp hr2 with h | h
        · exact ((rok r h).kp (o3.kp da')).kp kp1
        · rw [List.mem_singleton.mp h]
          exact DrAt.kp kp1 ⟨v, m, Tt, Bb, M, hT, hV, hd⟩
    rintro H2 ⟨rs, da2, hDl, rl, rok⟩
    refine ⟨_, rfl, Dl, rfl, ⟨_, .inl (.inl hDl)⟩, ?_⟩
    refine for_list (xs := rs.map V.ref) (fun i σ H' => ∃ y4, σ = [some (.ref a), some (.ref D), none, some (.ref Dl), y4, none, none] ∧ Same H2 H') ⟨none, rfl, Same.refl _⟩ ?_ ?_ ?_
    · rintro i σ H' _ ⟨_, _, sm⟩; exact .inl (.inl (sm _ _ hDl))
    · rintro i x σ H' hx ⟨y4, rfl, sm⟩
      obtain ⟨r, hr1, rfl⟩ := map_at hx
      obtain ⟨v, m, Tt, Bb, M, hT, hV, hd⟩ := (rok r (List.mem_of_getElem? hr1)).kp (Ly.Same.kp sm)
      have Wv_ := hd.wv hV
      obtain ⟨d, L, am, st⟩ := id hV
      have ok := hd.bd.ok st
      have m20 := hd.m20
      have wg := hd.wg
      have m0 := hd.kn.m0
      have fit := fitS (n := 10) st m0 (by omega) (by omega) (fun q hq => ⟨(hd.num q hq).1, by have := (hd.num q hq).2; omega⟩) (by omega)
      refine ⟨_, rfl, r, _, 0, _, rfl, rfl, hT, atI_nat (j := 0) rfl, _, rfl, r, _, 1, _, rfl, rfl, hT, atI_nat (j := 1) rfl, _, rfl, r, _, 2, _, rfl, rfl, hT, atI_nat (j := 2) rfl, _, rfl, r, _, 3, _, rfl, rfl, hT, atI_nat (j := 3) rfl, ?_⟩
      refine ⟨v, m, Tt, Bb, _, 10, 10 * (1 * cost L) + L.length + 1, 600, rfl, hV, hd.bd, by omega, hd.kn.T0, hd.kn.B0, hd.kn.vi, fun d' L' st' => ?_, hd.kn.Tb, hd.kn.Bb, by omega, fun H5 s5 => ⟨true, rfl, iteF ?_⟩⟩
      · obtain ⟨g1, g2⟩ := St4.unique st' st m0 m0 fun p => rfl
        subst g1 g2
        exact fit
      refine ⟨_, rfl, r, _, 0, _, rfl, rfl, SqT.same s5 hT, atI_nat (j := 0) rfl, v, d, L, rfl, am.same s5, ok, fun H6 s6 => ⟨_, _, rfl, rfl, _, rfl, iteF ?_⟩⟩
      exact ⟨_, rfl, sm.trans (s5.trans s6)⟩
    rintro σ H3 ⟨y4, rfl, sm⟩
    have da3 := da2.same sm
    have hDl3 := sm _ _ hDl
    have rok3 : ∀ r ∈ rs, DrAt K H3 r := fun r h => (rok r h).kp (Ly.Same.kp sm)
    clear sm da2 hDl rok da1 s1 nDl
    refine ⟨6, rfl, by omega, by omega, ?_⟩
    refine for_range (lo := 0) (n := (6 : Int).toNat) (fun i σ H' => ∃ y2 y4 y5 y6, σ = [some (.ref a), some (.ref D), y2, some (.ref Dl), y4, y5, y6] ∧ DeckAt H' D C (50 + 30 * i) ∧ H' Dl = some (.lst (rs.map V.ref)) ∧ ∀ r ∈ rs, DrAt K H' r) ⟨none, y4, none, none, rfl, da3, hDl3, rok3⟩ ?_ ?_
    · rintro i σ H4 hi ⟨y2, y4, y5, y6, rfl, da4, hDl4, rok4⟩
      have i6 : i < 6 := hi
      have len0 : 0 < (rs.map V.ref).length := by rw [List.length_map, rl]; omega
      have len1 : (rs.map V.ref).length ≤ 1000 := by rw [List.length_map, rl]; omega
      refine ⟨_, rfl, _, rfl, D, C, Dl, 50 + 30 * i, _, rfl, da4, by omega, hDl4, nD1, nD2, len0, len1, fun j1 x1 H5 hx1 o5 da5 => ?_⟩
      have hDl5 := o5 _ _ hDl4 nD1 nD2
      refine ⟨_, rfl, _, rfl, D, C, Dl, 50 + 30 * i + 1, _, rfl, da5, by omega, hDl5, nD1, nD2, len0, len1, fun j2 x2 H6 hx2 o6 da6 => ?_⟩
      have hDl6 := o6 _ _ hDl5 nD1 nD2
      refine ⟨_, rfl, _, rfl, D, C, Dl, 50 + 30 * i + 1 + 1, _, rfl, da6, by omega, hDl6, nD1, nD2, len0, len1, fun j3 x3 H7 hx3 o7 da7 => ?_⟩
      have hDl7 := o7 _ _ hDl6 nD1 nD2
      obtain ⟨r1, hr1, rfl⟩ := map_at hx1
      obtain ⟨r2, hr2, rfl⟩ := map_at hx2
      obtain ⟨r3, hr3, rfl⟩ := map_at hx3
      have rok7 : ∀ r ∈ rs, DrAt K H7 r := fun r h => (((rok4 r h).kp (o5.kp da4)).kp (o6.kp da5)).kp (o7.kp da6)
      obtain ⟨v1, m1, T1, B1, M1, h1, V1, k1⟩ := rok7 r1 (List.mem_of_getElem? hr1)
      obtain ⟨v2, m2, T2, B2, M2, h2, V2, k2⟩ := rok7 r2 (List.mem_of_getElem? hr2)
      obtain ⟨v3, m3, T3, B3, M3, h3, V3, k3⟩ := rok7 r3 (List.mem_of_getElem? hr3)
      clear hr1 hr2 hr3 hx1 hx2 hx3 o5 o6 o7 da4 da5 da6 hDl4 hDl5 hDl6 rok4
      refine ⟨_, _, _, rfl, ?_⟩
      refine ⟨_, rfl, _, rfl, r1, r2, v1, v2, m1, T1, B1, m2, T2, B2, M1, M2, rfl, h1, h2, V1, V2, k1, k2, fun H8 s8 => ⟨true, rfl, iteF ?_⟩⟩
      have da8 := da7.same s8
      refine ⟨_, rfl, _, rfl, _, rfl, D, C, r1, r2, 50 + 30 * i + 1 + 1 + 1, v1, v2, m1, T1, B1, m2, T2, B2, M1, M2, rfl, da8, by omega, SqT.same s8 h1, SqT.same s8 h2, V1.same s8, V2.same s8, k1, k2, fun H9 o9 da9 => ⟨true, rfl, iteF ?_⟩⟩
      have kp9 : Kp H7 H9 := (Ly.Same.kp s8).trans (o9.kp da8)
      have hDl9 := o9 _ _ (s8 _ _ hDl7) nD1 nD2
      have rok9 : ∀ r ∈ rs, DrAt K H9 r := fun r h => (rok7 r h).kp kp9
      have g1 := SqT.kp kp9 h1
      have g2 := SqT.kp kp9 h2
      have g3 := SqT.kp kp9 h3
      have W1 := k1.wv (V1.kp kp9)
      have W2 := k2.wv (V2.kp kp9)
      have W3 := k3.wv (V3.kp kp9)
      clear h1 h2 h3 V1 V2 V3 rok7 da7 da8 s8 o9 kp9 hDl7
      have p1 := W1.B0
      have p2 := W2.B0
      have p3 := W3.B0
      obtain ⟨d1, L1, am1, st1⟩ := id W1.val
      obtain ⟨d2, L2, am2, st2⟩ := id W2.val
      have ok1 := k1.bd.ok st1
      have ok2 := k2.bd.ok st2
      -- sums do not hang on the order
      obtain ⟨x1, x2, x3, x4, x5⟩ := W1.pm W2 1 (.inl rfl) (by omega) (by omega)
      refine ⟨_, rfl, r1, _, 0, _, rfl, rfl, g1, atI_nat (j := 0) rfl, _, rfl, r2, _, 0, _, rfl, rfl, g2, atI_nat (j := 0) rfl, v1, v2, _, _, _, rfl, x1, x2, x3, x4, fun va H10 s10 hva => ?_⟩
      have Wa := x5 va H10 hva
      clear x1 x2 x3 x4 x5
      obtain ⟨x1, x2, x3, x4, x5⟩ := Wa.pm (W3.same s10) 1 (.inl rfl) (by omega) (by omega)
      refine ⟨_, rfl, r3, _, 0, _, rfl, rfl, SqT.same s10 g3, atI_nat (j := 0) rfl, va, v3, _, _, _, rfl, x1, x2, x3, x4, fun vb H11 s11 hvb => ?_⟩
      have Wb := x5 vb H11 hvb
      clear x1 x2 x3 x4 x5
      obtain ⟨db, Lb, amb, stb⟩ := id Wb.val
      have okb := (Wb.bd (by omega) (by omega)).ok stb
      obtain ⟨ra1, re1, rb1, rc1, rd1, rf1, rg1⟩ := okb.rp amb
      refine ⟨ra1, _, by rw [re1], rb1, rc1, rd1, rf1, rg1, ?_⟩
      have s9_11 := s10.trans s11
      obtain ⟨x1, x2, x3, x4, x5⟩ := (W3.same s9_11).pm (W2.same s9_11) 1 (.inl rfl) (by omega) (by omega)
      refine ⟨_, rfl, r1, _, 0, _, rfl, rfl, SqT.same s9_11 g1, atI_nat (j := 0) rfl, _, rfl, r3, _, 0, _, rfl, rfl, SqT.same s9_11 g3, atI_nat (j := 0) rfl, _, rfl, r2, _, 0, _, rfl, rfl, SqT.same s9_11 g2, atI_nat (j := 0) rfl, v3, v2, _, _, _, rfl, x1, x2, x3, x4, fun vc H12 s12 hvc => ?_⟩
      have Wc := x5 vc H12 hvc
      clear x1 x2 x3 x4 x5
      have s9_12 := s9_11.trans s12
      obtain ⟨x1, x2, x3, x4, x5⟩ := (W1.same s9_12).pm Wc 1 (.inl rfl) (by omega) (by omega)
      refine ⟨v1, vc, _, _, _, rfl, x1, x2, x3, x4, fun vd H13 s13 hvd => ?_⟩
      have amd := (x5 vd H13 hvd).at stb Wb.B0 fun p => by
        simp only [lg_append, lg_scl]; grind
      obtain ⟨ra2, re2, rb2, rc2, rd2, rf2, rg2⟩ := okb.rp amd
      refine ⟨ra2, _, by rw [re2], rb2, rc2, rd2, rf2, rg2, rfl, _, rfl, ?_⟩
      rw [no_ne rfl]
      refine iteF ?_
      have s9_13 := s9_12.trans s13
      clear re1 rb1 re2 rb2 rc1 rd1 rf1 rg1 rc2 rd2 rf2 rg2 x1 x2 x3 x4 x5 Wa Wb Wc hva hvb hvc hvd amb amd stb okb s9_11 s9_12
      -- near enough
      have fk1 := few_keys st1 p1 fun q hq => (k1.num q hq).1
      have fk2 := few_keys st2 p2 fun q hq => (k2.num q hq).1
      refine ⟨_, rfl, r1, _, 0, _, rfl, rfl, SqT.same s9_13 g1, atI_nat (j := 0) rfl, _, rfl, r2, _, 0, _, rfl, rfl, SqT.same s9_13 g2, atI_nat (j := 0) rfl, v1, v2, d1, d2, L1, L2, rfl, am1.same s9_13, am2.same s9_13, ok1, ok2, by have := k1.one; have := k2.one; omega, fun bb H14 s14 => ?_⟩
      have s9_14 := s9_13.trans s14
      have fin : ∀ H', Same H9 H' → DeckAt H' D C (50 + 30 * (i + 1)) ∧ H' Dl = some (.lst (rs.map V.ref)) ∧ ∀ r ∈ rs, DrAt K H' r := fun H' sm =>
        ⟨(da9.mono (by omega)).same sm, sm _ _ hDl9, fun r h => (rok9 r h).kp (Ly.Same.kp sm)⟩
      refine ⟨bb, rfl, ite2 (fun _ => ⟨_, _, _, _, rfl, fin _ s9_14⟩) (fun _ => ?_)⟩
      obtain ⟨z1, z2⟩ := below_ok p1 p2 k1.m20 k2.m20 k1.num k2.num k1.wg k2.wg
      obtain ⟨x1, x2, x3, x4, x5⟩ := (W1.same s9_14).pm (W2.same s9_14) (-1) (.inr rfl) (by omega) (by omega)
      refine ⟨_, rfl, r1, _, 0, _, rfl, rfl, SqT.same s9_14 g1, atI_nat (j := 0) rfl, _, rfl, r2, _, 0, _, rfl, rfl, SqT.same s9_14 g2, atI_nat (j := 0) rfl, v1, v2, _, _, _, 10, rfl, x1, x2, x3, x4, z1, fun d L st => (z2 d L st).1, fun d5 L5 H15 s15 st5 => ?_⟩
      have st5' := (z2 d5 L5 st5).2
      clear x1 x2 x3 x4 x5
      have s9_15 := s9_14.trans s15
      refine ⟨_, rfl, ite2 (fun c => ?_) (fun _ => ?_)⟩
      · obtain ⟨x1, x2, x3, x4, x5⟩ := (W1.same s9_15).pm (W3.same s9_15) 1 (.inl rfl) (by omega) (by omega)
        refine ⟨_, rfl, r1, _, 0, _, rfl, rfl, SqT.same s9_15 g1, atI_nat (j := 0) rfl, _, rfl, r3, _, 0, _, rfl, rfl, SqT.same s9_15 g3, atI_nat (j := 0) rfl, v1, v3, _, _, _, rfl, x1, x2, x3, x4, fun v4 H16 s16 hv4 => ?_⟩
        have W4 := x5 v4 H16 hv4
        clear x1 x2 x3 x4 x5
        have s9_16 := s9_15.trans s16
        obtain ⟨x1, x2, x3, x4, x5⟩ := (W3.same s9_16).pm (W2.same s9_16) 1 (.inl rfl) (by omega) (by omega)
        refine ⟨_, rfl, r3, _, 0, _, rfl, rfl, SqT.same s9_16 g3, atI_nat (j := 0) rfl, _, rfl, r2, _, 0, _, rfl, rfl, SqT.same s9_16 g2, atI_nat (j := 0) rfl, v3, v2, _, _, _, rfl, x1, x2, x3, x4, fun v5 H17 s17 hv5 => ?_⟩
        have W5 := x5 v5 H17 hv5
        clear x1 x2 x3 x4 x5
        obtain ⟨x1, x2, x3, x4, x5⟩ := (W4.same s17).pm W5 (-1) (.inr rfl) (by omega) (by omega)
        have pp : 0 < m1 * m2 := Int.mul_pos p1 p2
        have p4 := W4.B0
        have p5 := W5.B0
        have base : ∀ d L, St4 d L (m1 * m3 * (m3 * m2)) (fun p => lg (scl (m3 * m2) (scl m3 M1 ++ scl (1 * m1) M3)) p + -1 * lg (scl (m1 * m3) (scl m2 M3 ++ scl (1 * m3) M2)) p) → St4 d L (m1 * m2) (fun p => lg (scl m2 M1) p + -1 * lg (scl m1 M2) p) := fun d L st =>
          St4.congr st (Int.mul_pos p4 p5) fun p => by
            simp only [lg_append, lg_scl]; grind
        have bd6 : Bd (m1 * m3 * (m3 * m2)) (fun p => lg (scl (m3 * m2) (scl m3 M1 ++ scl (1 * m1) M3)) p + -1 * lg (scl (m1 * m3) (scl m2 M3 ++ scl (1 * m3) M2)) p) := (W4.same s17).bdpm W5 (-1) (.inr rfl) (by omega) (by omega)
        refine ⟨v4, v5, _, _, _, 10, rfl, x1, x2, x3, x4, bd6, fun d L st => (z2 d L (base d L st)).1, fun d6 L6 H18 s18 st6 => ?_⟩
        obtain ⟨_, e6⟩ := St4.unique (z2 d6 L6 (base d6 L6 st6)).2 st5' pp pp fun p => rfl
        rw [e6, c]
        refine ⟨true, rfl, iteF ?_⟩
        have smF := s9_16.trans (s17.trans s18)
        refine ⟨_, rfl, D, C, 50 + 30 * i + 1 + 1 + 1 + 10, rfl, da9.same smF, by omega, fun H19 o19 da19 => ⟨true, rfl, iteF ?_⟩⟩
        exact ⟨_, _, _, _, rfl, da19.mono (by omega), o19 _ _ (smF _ _ hDl9) nD1 nD2, fun r h => ((rok9 r h).kp (Ly.Same.kp smF)).kp (o19.kp (da9.same smF))⟩
      · refine iteF ?_
        have smF := s9_15
        refine ⟨_, rfl, D, C, 50 + 30 * i + 1 + 1 + 1 + 10, rfl, da9.same smF, by omega, fun H19 o19 da19 => ⟨true, rfl, iteF ?_⟩⟩
        exact ⟨_, _, _, _, rfl, da19.mono (by omega), o19 _ _ (smF _ _ hDl9) nD1 nD2, fun r h => ((rok9 r h).kp (Ly.Same.kp smF)).kp (o19.kp (da9.same smF))⟩
    · rintro σ H4 ⟨_, _, _, _, rfl, _⟩
      exact q _
end
end K02

namespace K02
open PySem PySem.Spec PyProof.Rows L2 Ly
abbrev lv : Nat := 10
theorem fin {P : Program} {w : World} {mg : Str → Option Value} {fa_ : Addr} {h hh : Heap} {K : PySem.W.Frag} (KX : K.In h) (G : h.Ns mainGlobals mg) (c : He.SaysX fa fn [] [] ex w hh K) (hmg : mg ("law" : Str) = some (.ref fa_)) :
    ∃ (K : PySem.W.Frag) (fd : FuncData) (sp : Sp), K.In h ∧ (∀ (s : Shared) (u : Value), BindsTo s fd ⟨[u], []⟩ [("_law_script", u)]) ∧
      (∀ (H : Hp) (a : Addr) (ns : List Int), ns.length ≤ 63 → Only H → SqL K H a (ns.map V.int) → sp [.ref a] H (fun v _ => v = .bl true) fun _ _ _ => False) ∧
      ∀ base : Heap, K.In base → base.Ns mainGlobals mg → FnG P w K mg base CX0 lv fa_ fd ["_law_script"] sp := by
  have T := Tx.mk_of KX G c
  obtain ⟨f, fd, F, B, B2, g⟩ := fd_law T
  have e : f = fa_ := by
    rw [hmg] at g
    have := Option.some.inj g
    cases this; rfl
  subst e
  refine ⟨K, fd, spLaw K, KX, fun s u => B2 s [u] rfl, fun H a ns hl _ hS => ⟨a, ns, rfl, hS, hl, fun _ => rfl⟩, fun base _ _ => law_fn T F⟩
end K02
namespace K02
open PySem PySem.Spec PyProof.Rows L2 Ly
abbrev R : PySem.W.OpenRow := PySem.W.OpenLaw.row PySem.Challenge.rw_toldamounts_k02_whole_sums_and_multiples
abbrev hk : PySem.W.Hook := He.hookX 4 fa fn [] [] ex
def ob (s : PySem.W.SharedT) : He.AlX := He.obsX 4 fa fn [] [] ex (HandSHeadRun.getT s)
theorem ob_eq (s : PySem.W.SharedT) : ob s = hk.obs s.abs := He.obsX_eq (HandSHeadRun.getT_eq s)
abbrev lz0 : List Str := ["gcd", "isqrt", "lcm", "AmountError", "BadAmount", "BadNumber", "BadCounts", "is_integer", "is_integer_in", "is_tuple_of", "are_integers_in", "is_ascending"]
abbrev lz1 : List Str := ["is_prime", "prime_powers", "amount_from", "logs_added", "spread_of", "combined", "power", "products_of", "ABOVE_PRIMES", "MOST_COUNTS", "MOST_COUNT", "MOST_TOP"]
abbrev lz2 : List Str := ["MOST_K", "is_part", "is_amount", "require_amount", "require_number", "amount_of", "spread", "plus", "minus", "is_below", "times", "sign_of"]
abbrev lz3 : List Str := ["steps_of", "greatest_power", "_law_deck", "_law_draw", "_law_pick", "_law_gcd", "_law_power", "_law_is_integer", "_law_is_prime", "_law_is_own_amount", "_law_sides", "_law_stands"]
abbrev lz4 : List Str := ["_law_whole", "_law_is_near_enough", "_law_drawn", "_law_is_sum", "_law_order", "_law_is_two_right", "_law_is_multiple_right", "_law_are_logarithms_right"]
abbrev lo : List Str := lz0 ++ lz1 ++ lz2 ++ lz3 ++ lz4
theorem run (w : World) : HandSHeadRun.RunEqI R (PySem.W.view R.prog [0, 60]) hk ob 6000 lo w := by
  unfold HandSHeadRun.RunEqI
  kernel_rfl
end K02
open PySem PySem.W PySem.Calls PyProof.Rows
theorem PySem.Challenge.cw_toldamounts_k02_whole_sums_and_multiples_holds : PySem.Challenge.rw_toldamounts_k02_whole_sums_and_multiples.Holds := by
  w_on; o_law
  refine HandSHeadRun.head_imp (r := OpenLaw.row PySem.Challenge.rw_toldamounts_k02_whole_sums_and_multiples) (q := view (OpenLaw.row PySem.Challenge.rw_toldamounts_k02_whole_sums_and_multiples).prog [0, 60]) (H := K02.hk) (ob := K02.ob) (M := 6000) (loose := K02.lo) (d := HandSHeadRun.topDef (OpenLaw.row PySem.Challenge.rw_toldamounts_k02_whole_sums_and_multiples).prog 60) (kwd := []) K02.ob_eq
    K02.run (by kernel_rfl) (by kernel_rfl) (by kernel_rfl) (by rfl) (by first | assumption | decide +kernel) (by decide +kernel) ⟨rfl, rfl, rfl, rfl, rfl, by decide +kernel⟩ ?hw ?hc
  case hw => w_witness2
  case hc =>
    refine Ly.walk_ofG (l := PySem.Challenge.rw_toldamounts_k02_whole_sums_and_multiples) (n := 63) (k := K02.lv) (x := "_law_script") rfl (by decide) (by kernel_rfl) ⟨rfl, by decide, by decide⟩ ?_
    intro w mg fa h Y G hmg0
    obtain ⟨K, KX, c⟩ := Y
    have hmg : mg ("law" : PySem.Str) = some (.ref fa) := by
      have e : (HandSHeadRun.topDef (OpenLaw.row PySem.Challenge.rw_toldamounts_k02_whole_sums_and_multiples).prog 60).name = ("law" : PySem.Str) := by kernel_rfl
      rw [← e]
      exact hmg0
    exact K02.fin KX G c hmg

