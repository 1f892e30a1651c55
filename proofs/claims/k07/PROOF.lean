import PyProof.Rows.All
import Wide.All
import OpenK.AllK
import Wide.FinOn
import KE.KStateDown
import KE.KMathGC
import KE.DataMinMax
import KE.SortData
import PyProof.ReprRoads
import HandS.ForMost
import HandS.Wide
import HandS.WideBits
import HandS.Gcd
import HandS.Style
import HandS.Sort
import HandS.SortRule
import HandS.SortInts
import HandS.DictComp
import HandS.Zip
import HandS.TupAny
import HandS.TupMul
import HandS.IsInst
import HandS.Flow
import HandS.Conv
import HandS.Defaults
import HandS.Head0
import HandS.Head1
import HandS.Head2
import HandS.Head3
import HandS.HeadEnd
import HandS.HeadHook1
import HandS.HeadHook2
import HandS.HeadHook3
import HandS.HeadHook4
import HandS.Walk
import KE.GoesZip
import KE.GoesMore
import PyProof.FitsInt
import PyProof.TupleOfSeq
import KE.KRevSl
import HandS.SetFor
import HandS.Strs
import HandS.RaiseMore
import HandS.Text
import HandS.Dict
import PySem.Challenge.RW_toldamounts_k07_signs_and_steps_of_amoun
import Flt.RightSqrt
set_option Elab.async false
set_option linter.all false
set_option maxRecDepth 100000
set_option maxHeartbeats 4000000
/-! whole numbers: primes, how often a prime divides, lists of prime powers -/
namespace Am
/-- a prime -/
def Pr (p : Nat) : Prop := 2 ≤ p ∧ ∀ d, d ∣ p → d = 1 ∨ d = p
theorem Pr.two {p : Nat} (h : Pr p) : 2 ≤ p := h.1
theorem Pr.pos {p : Nat} (h : Pr p) : 0 < p := Nat.lt_of_lt_of_le Nat.zero_lt_two h.1
theorem Pr.euclid {p a b : Nat} (hp : Pr p) (h : p ∣ a * b) : p ∣ a ∨ p ∣ b := by
  rcases hp.2 (Nat.gcd p a) (Nat.gcd_dvd_left p a) with e | e
  · exact .inr (Nat.Coprime.dvd_of_dvd_mul_left (show Nat.Coprime p a from e) h)
  · exact .inl (e ▸ Nat.gcd_dvd_right p a)
/-- how often p divides n -/
def vp (p n : Nat) : Nat := if h : 2 ≤ p ∧ 0 < n ∧ n % p = 0 then vp p (n / p) + 1 else 0
termination_by n
decreasing_by exact Nat.div_lt_self h.2.1 h.1
theorem vp_yes {p n : Nat} (hp : 2 ≤ p) (hn : 0 < n) (h : n % p = 0) : vp p n = vp p (n / p) + 1 := by
  rw [vp]; exact dif_pos ⟨hp, hn, h⟩
theorem vp_no {p n : Nat} (h : n % p ≠ 0) : vp p n = 0 := by
  rw [vp]; exact dif_neg (fun z => h z.2.2)
theorem vp_zero {p : Nat} : vp p 0 = 0 := by
  rw [vp]; exact dif_neg (fun z => Nat.lt_irrefl 0 z.2.1)
theorem vp_mul_self {p n : Nat} (hp : 2 ≤ p) (hn : 0 < n) : vp p (p * n) = vp p n + 1 := by
  have h1 : 0 < p * n := Nat.mul_pos (by omega) hn
  rw [vp_yes hp h1 (Nat.mul_mod_right p n), Nat.mul_div_cancel_left n (by omega)]
theorem vp_mul {p : Nat} (hp : Pr p) : ∀ (a b : Nat), 0 < a → 0 < b → vp p (a * b) = vp p a + vp p b := by
  intro a
  induction a using Nat.strongRecOn with
  | _ a ih =>
    intro b ha hb
    by_cases h : a % p = 0
    · obtain ⟨c, rfl⟩ := Nat.dvd_of_mod_eq_zero h
      have hc : 0 < c := Nat.pos_of_mul_pos_left ha
      rw [Nat.mul_assoc, vp_mul_self hp.1 (Nat.mul_pos hc hb), vp_mul_self hp.1 hc, ih c (by have := hp.1; calc c < 2 * c := by omega
                                                                                                 _ ≤ p * c := Nat.mul_le_mul_right c this) b hc hb]
      omega
    · rw [vp_no h, Nat.zero_add]
      clear ih
      induction b using Nat.strongRecOn with
      | _ b ih2 =>
        by_cases h2 : b % p = 0
        · obtain ⟨c, rfl⟩ := Nat.dvd_of_mod_eq_zero h2
          have hc : 0 < c := Nat.pos_of_mul_pos_left hb
          rw [Nat.mul_left_comm, vp_mul_self hp.1 (Nat.mul_pos ha hc), vp_mul_self hp.1 hc, ih2 c (by have := hp.1; calc c < 2 * c := by omega
                                                                                                 _ ≤ p * c := Nat.mul_le_mul_right c this) hc]
        · rw [vp_no h2]
          apply vp_no
          intro z
          rcases hp.euclid (Nat.dvd_of_mod_eq_zero z) with q | q
          · exact h (Nat.mod_eq_zero_of_dvd q)
          · exact h2 (Nat.mod_eq_zero_of_dvd q)
theorem vp_one {p : Nat} (hp : 2 ≤ p) : vp p 1 = 0 := by
  apply vp_no
  rw [Nat.mod_eq_of_lt (by omega)]; omega
theorem vp_pow {p a : Nat} (hp : Pr p) (ha : 0 < a) : ∀ k, vp p (a ^ k) = k * vp p a
  | 0 => by rw [Nat.pow_zero, vp_one hp.1, Nat.zero_mul]
  | k + 1 => by
    rw [Nat.pow_succ, vp_mul hp _ _ (Nat.pow_pos ha) ha, vp_pow hp ha k, Nat.succ_mul]
theorem vp_self {p : Nat} (hp : Pr p) : vp p p = 1 := by
  have := vp_mul_self hp.1 Nat.one_pos
  rw [Nat.mul_one, vp_one hp.1] at this
  exact this
theorem vp_other {p q : Nat} (hp : Pr p) (hq : Pr q) (h : p ≠ q) : vp p q = 0 := by
  apply vp_no
  intro z
  rcases hq.2 p (Nat.dvd_of_mod_eq_zero z) with e | e
  · have := hp.1; omega
  · exact h e
theorem vp_dvd {p : Nat} (hp : 2 ≤ p) : ∀ n, 0 < n → p ^ vp p n ∣ n := by
  intro n
  induction n using Nat.strongRecOn with
  | _ n ih =>
    intro hn
    by_cases h : n % p = 0
    · obtain ⟨c, rfl⟩ := Nat.dvd_of_mod_eq_zero h
      have hc : 0 < c := Nat.pos_of_mul_pos_left hn
      rw [vp_mul_self hp hc, Nat.pow_succ, Nat.mul_comm]
      exact Nat.mul_dvd_mul_left p (ih c (by calc c < 2 * c := by omega
                                               _ ≤ p * c := Nat.mul_le_mul_right c hp) hc)
    · rw [vp_no h, Nat.pow_zero]; exact Nat.one_dvd n
theorem vp_le {p n k : Nat} (hp : 2 ≤ p) (hn : 0 < n) (h : n < 2 ^ (k + 1)) : vp p n ≤ k := by
  have h1 : p ^ vp p n ≤ n := Nat.le_of_dvd hn (vp_dvd hp n hn)
  have h2 : 2 ^ vp p n ≤ p ^ vp p n := Nat.pow_le_pow_left hp _
  have h3 : 2 ^ vp p n < 2 ^ (k + 1) := by omega
  have h4 := (Nat.pow_lt_pow_iff_right (a := 2) (by omega)).mp h3
  omega
/-- a prime that divides is not above -/
theorem vp_pos_le {p n : Nat} (hn : 0 < n) (h : vp p n ≠ 0) : p ≤ n := by
  by_cases z : n % p = 0
  · exact Nat.le_of_dvd hn (Nat.dvd_of_mod_eq_zero z)
  · exact absurd (vp_no z) h
/-! prime powers in a list -/
/-- the product -/
def pprod : List (Nat × Nat) → Nat
  | [] => 1
  | q :: r => q.1 ^ q.2 * pprod r
theorem pprod_append : ∀ a b : List (Nat × Nat), pprod (a ++ b) = pprod a * pprod b
  | [], b => by simp [pprod]
  | q :: r, b => by simp only [List.cons_append, pprod]; rw [pprod_append r b, Nat.mul_assoc]
/-- ascending primes with powers above 0, of this product -/
structure PF (n : Nat) (L : List (Nat × Nat)) : Prop where
  asc : L.Pairwise (fun a b => a.1 < b.1)
  pr : ∀ q ∈ L, Pr q.1 ∧ 0 < q.2
  prod : pprod L = n
def look (L : List (Nat × Nat)) (p : Nat) : Nat := (L.lookup p).getD 0
theorem pprod_pos {L : List (Nat × Nat)} (h : ∀ q ∈ L, Pr q.1 ∧ 0 < q.2) : 0 < pprod L := by
  induction L with
  | nil => exact Nat.one_pos
  | cons q r ih =>
    exact Nat.mul_pos (Nat.pow_pos (h q List.mem_cons_self).1.pos) (ih fun z hz => h z (List.mem_cons_of_mem _ hz))
theorem look_above {L : List (Nat × Nat)} {p : Nat} (h : ∀ q ∈ L, q.1 ≠ p) : look L p = 0 := by
  induction L with
  | nil => rfl
  | cons q r ih =>
    unfold look
    rw [List.lookup_cons]
    have h1 : (p == q.1) = false := by simpa using fun z : p = q.1 => h q List.mem_cons_self z.symm
    rw [h1]
    exact ih fun z hz => h z (List.mem_cons_of_mem _ hz)
theorem vp_pprod {p : Nat} (hp : Pr p) : ∀ {L : List (Nat × Nat)}, L.Pairwise (fun a b => a.1 < b.1) → (∀ q ∈ L, Pr q.1 ∧ 0 < q.2) → vp p (pprod L) = look L p
  | [], _, _ => vp_one hp.1
  | q :: r, h, hr => by
    obtain ⟨h1, h2⟩ := List.pairwise_cons.mp h
    have hq := hr q List.mem_cons_self
    have hr' : ∀ z ∈ r, Pr z.1 ∧ 0 < z.2 := fun z hz => hr z (List.mem_cons_of_mem _ hz)
    show vp p (q.1 ^ q.2 * pprod r) = _
    rw [vp_mul hp _ _ (Nat.pow_pos hq.1.pos) (pprod_pos hr'), vp_pow hp hq.1.pos, vp_pprod hp h2 hr']
    by_cases e : p = q.1
    · subst e
      rw [vp_self hq.1, Nat.mul_one, look_above (fun z hz => Nat.ne_of_gt (h1 z hz))]
      unfold look
      rw [List.lookup_cons]
      simp
    · rw [vp_other hp hq.1 e, Nat.mul_zero, Nat.zero_add]
      unfold look
      rw [List.lookup_cons]
      have h3 : (p == q.1) = false := by simpa using e
      rw [h3]
theorem PF.look {n : Nat} {L : List (Nat × Nat)} (h : PF n L) {p : Nat} (hp : Pr p) : look L p = vp p n := by
  rw [← h.prod, vp_pprod hp h.asc h.pr]
end Am
namespace Am
/-- no divisor up to the root -/
theorem pr_root {n r : Nat} (hn : 2 ≤ n) (h1 : r * r ≤ n) (h2 : n < (r + 1) * (r + 1)) : (∀ d, 2 ≤ d → d < r + 1 → n % d ≠ 0) ↔ Pr n := by
  constructor
  · intro h
    refine ⟨hn, fun d hd => ?_⟩
    obtain ⟨e, he⟩ := hd
    by_cases d1 : d = 1
    · exact .inl d1
    by_cases dn : d = n
    · exact .inr dn
    exfalso
    have d0 : d ≠ 0 := by rintro rfl; omega
    have e0 : e ≠ 0 := by rintro rfl; omega
    have e1 : e ≠ 1 := by rintro rfl; omega
    by_cases c : d < r + 1
    · exact h d (by omega) c (by rw [he]; exact Nat.mul_mod_right d e)
    · by_cases c2 : e < r + 1
      · exact h e (by omega) c2 (by rw [he, Nat.mul_comm]; exact Nat.mul_mod_right e d)
      · have : (r + 1) * (r + 1) ≤ d * e := Nat.mul_le_mul (by omega) (by omega)
        omega
  · intro h d hd hr z
    rcases h.2 d (Nat.dvd_of_mod_eq_zero z) with e | e
    · omega
    · subst e
      have : 2 * d ≤ d * d := Nat.mul_le_mul_right d hd
      have : d * d ≤ r * r := Nat.mul_le_mul (by omega) (by omega)
      omega
end Am

namespace Am
/-! amounts in their one form -/
/-- the greatest common divisor, from the left -/
def gl (b : Int) (cs : List Int) : Int := cs.foldl (fun g c => ((Nat.gcd g.natAbs c.natAbs : Nat) : Int)) b
theorem gl_cons (b c : Int) (cs : List Int) : gl b (c :: cs) = gl ((Nat.gcd b.natAbs c.natAbs : Nat) : Int) cs := rfl
theorem gl_dvd : ∀ (cs : List Int) (b : Int), gl b cs ∣ b ∧ ∀ c ∈ cs, gl b cs ∣ c
  | [], b => ⟨Int.dvd_refl b, by simp⟩
  | c :: cs, b => by
    rw [gl_cons]
    obtain ⟨h1, h2⟩ := gl_dvd cs ((Nat.gcd b.natAbs c.natAbs : Nat) : Int)
    have db : ((Nat.gcd b.natAbs c.natAbs : Nat) : Int) ∣ b := Int.natAbs_dvd_natAbs.mp (by rw [Int.natAbs_natCast]; exact Nat.gcd_dvd_left _ _)
    have dc : ((Nat.gcd b.natAbs c.natAbs : Nat) : Int) ∣ c := Int.natAbs_dvd_natAbs.mp (by rw [Int.natAbs_natCast]; exact Nat.gcd_dvd_right _ _)
    refine ⟨Int.dvd_trans h1 db, fun x hx => ?_⟩
    rcases List.mem_cons.mp hx with e | hx
    · rw [e]; exact Int.dvd_trans h1 dc
    · exact h2 x hx
theorem gl_greatest : ∀ (cs : List Int) (b g : Int), g ∣ b → (∀ c ∈ cs, g ∣ c) → g ∣ gl b cs
  | [], b, g, h, _ => h
  | c :: cs, b, g, h, hc => by
    rw [gl_cons]
    refine gl_greatest cs _ g ?_ fun x hx => hc x (List.mem_cons_of_mem _ hx)
    have h1 : g.natAbs ∣ b.natAbs := Int.natAbs_dvd_natAbs.mpr h
    have h2 : g.natAbs ∣ c.natAbs := Int.natAbs_dvd_natAbs.mpr (hc c List.mem_cons_self)
    exact Int.natAbs_dvd_natAbs.mp (by rw [Int.natAbs_natCast]; exact Nat.dvd_gcd h1 h2)
theorem gl_pos : ∀ (cs : List Int) (b : Int), 0 < b → 0 < gl b cs
  | [], b, h => h
  | c :: cs, b, h => by
    rw [gl_cons]
    refine gl_pos cs _ ?_
    have : 0 < Nat.gcd b.natAbs c.natAbs := Nat.gcd_pos_of_pos_left _ (by omega)
    omega
theorem gl_le (cs : List Int) {b : Int} (h : 0 < b) : gl b cs ≤ b := Int.le_of_dvd h (gl_dvd cs b).1
theorem gl_mul : ∀ (cs : List Int) (b k : Int), 0 < b → 0 < k → gl (b * k) (cs.map (· * k)) = gl b cs * k
  | [], b, k, _, _ => rfl
  | c :: cs, b, k, hb, hk => by
    rw [List.map_cons, gl_cons, gl_cons]
    have e : ((Nat.gcd (b * k).natAbs (c * k).natAbs : Nat) : Int) = ((Nat.gcd b.natAbs c.natAbs : Nat) : Int) * k := by
      rw [Int.natAbs_mul, Int.natAbs_mul, Nat.gcd_mul_right, Int.natCast_mul]
      congr 1
      omega
    rw [e]
    refine gl_mul cs _ k ?_ hk
    have : 0 < Nat.gcd b.natAbs c.natAbs := Nat.gcd_pos_of_pos_left _ (by omega)
    omega
/-- d.get(k, 0) -/
def ig (L : List (Int × Int)) (k : Int) : Int := (L.lookup k).getD 0
theorem ig_cons (q : Int × Int) (r : List (Int × Int)) (k : Int) : ig (q :: r) k = if k = q.1 then q.2 else ig r k := by
  unfold ig
  rw [List.lookup_cons]
  by_cases h : k = q.1
  · subst h; simp
  · have : (k == q.1) = false := by simpa using h
    rw [this, if_neg h]
theorem ig_none {L : List (Int × Int)} {k : Int} (h : ∀ q ∈ L, q.1 ≠ k) : ig L k = 0 := by
  induction L with
  | nil => rfl
  | cons q r ih =>
    rw [ig_cons, if_neg (fun z => h q List.mem_cons_self z.symm)]
    exact ih fun z hz => h z (List.mem_cons_of_mem _ hz)
theorem ig_mem {L : List (Int × Int)} (hn : (L.map (·.1)).Nodup) {q : Int × Int} (h : q ∈ L) : ig L q.1 = q.2 := by
  induction L with
  | nil => cases h
  | cons x r ih =>
    rw [List.map_cons, List.nodup_cons] at hn
    rw [ig_cons]
    rcases List.mem_cons.mp h with e | h
    · rw [e, if_pos rfl]
    · rw [if_neg, ih hn.2 h]
      intro z
      exact hn.1 (List.mem_map.mpr ⟨q, h, z⟩)
theorem ig_cases (L : List (Int × Int)) (k : Int) : ig L k = 0 ∨ (k, ig L k) ∈ L := by
  induction L with
  | nil => exact .inl rfl
  | cons q r ih =>
    rw [ig_cons]
    by_cases h : k = q.1
    · rw [if_pos h, h]; exact .inr List.mem_cons_self
    · rw [if_neg h]
      rcases ih with e | e
      · exact .inl e
      · exact .inr (List.mem_cons_of_mem _ e)
theorem asc_nodup {L : List (Int × Int)} (h : L.Pairwise (fun a b => a.1 < b.1)) : (L.map (·.1)).Nodup := by
  rw [List.Nodup, List.pairwise_map]
  exact h.imp fun {a b} z => by omega
/-- an amount in its one form -/
structure Cn (d : Int) (L : List (Int × Int)) : Prop where
  d1 : 0 < d
  asc : L.Pairwise (fun a b => a.1 < b.1)
  pr : ∀ q ∈ L, ∃ p : Nat, q.1 = p ∧ Pr p ∧ p < 1000000
  nz : ∀ q ∈ L, q.2 ≠ 0
  gcd : gl d (L.map (·.2)) = 1
theorem asc_ext : ∀ {L M : List (Int × Int)}, L.Pairwise (fun a b => a.1 < b.1) → M.Pairwise (fun a b => a.1 < b.1) → (∀ q ∈ L, q.2 ≠ 0) → (∀ q ∈ M, q.2 ≠ 0) → (∀ p, ig L p = ig M p) → L = M
  | [], [], _, _, _, _, _ => rfl
  | [], b :: M, _, _, _, hm, h => by
    have := h b.1
    rw [ig_cons, if_pos rfl] at this
    exact absurd this.symm (hm b List.mem_cons_self)
  | a :: L, [], _, _, hl, _, h => by
    have := h a.1
    rw [ig_cons, if_pos rfl] at this
    exact absurd this (hl a List.mem_cons_self)
  | a :: L, b :: M, hL, hM, hl, hm, h => by
    obtain ⟨a1, a2⟩ := List.pairwise_cons.mp hL
    obtain ⟨b1, b2⟩ := List.pairwise_cons.mp hM
    have na := hl a List.mem_cons_self
    have nb := hm b List.mem_cons_self
    have la : ∀ p, p ≤ a.1 → ig L p = 0 := fun p hp => ig_none fun q hq z => by have := a1 q hq; omega
    have lb : ∀ p, p ≤ b.1 → ig M p = 0 := fun p hp => ig_none fun q hq z => by have := b1 q hq; omega
    have e1 : a.1 = b.1 := by
      rcases Int.lt_trichotomy a.1 b.1 with z | z | z
      · exfalso
        have := h a.1
        rw [ig_cons, if_pos rfl, ig_cons, if_neg (by omega), lb _ (by omega)] at this
        exact na this
      · exact z
      · exfalso
        have := h b.1
        rw [ig_cons, if_neg (by omega), la _ (by omega), ig_cons, if_pos rfl] at this
        exact nb this.symm
    have e2 : a.2 = b.2 := by
      have := h a.1
      rw [ig_cons, if_pos rfl, ig_cons, if_pos e1] at this
      exact this
    have e3 : L = M := by
      refine asc_ext a2 b2 (fun q hq => hl q (List.mem_cons_of_mem _ hq)) (fun q hq => hm q (List.mem_cons_of_mem _ hq)) fun p => ?_
      by_cases hp : p = a.1
      · rw [la p (by omega), lb p (by omega)]
      · have := h p
        rw [ig_cons, if_neg hp, ig_cons, if_neg (by omega)] at this
        exact this
    rw [e3, Prod.ext e1 e2]
/-- the divisor of a form divides what it was divided from -/
theorem Cn.dvd_of {d k : Int} {L : List (Int × Int)} (c : Cn d L) (hk : 0 < k) (h : ∀ q ∈ L, d ∣ q.2 * k) : d ∣ k := by
  have h1 : d ∣ gl (d * k) ((L.map (·.2)).map (· * k)) := by
    refine gl_greatest _ _ _ (Int.dvd_mul_right d k) fun x hx => ?_
    obtain ⟨y, hy, rfl⟩ := List.mem_map.mp hx
    obtain ⟨q, hq, rfl⟩ := List.mem_map.mp hy
    exact h q hq
  rw [gl_mul _ _ _ c.d1 hk, c.gcd, Int.one_mul] at h1
  exact h1
/-- one number, one form -/
theorem Cn.unique {d e : Int} {L M : List (Int × Int)} (c : Cn d L) (c' : Cn e M) (h : ∀ p, ig L p * e = ig M p * d) : d = e ∧ L = M := by
  have nL := asc_nodup c.asc
  have nM := asc_nodup c'.asc
  have h1 : d ∣ e := c.dvd_of c'.d1 fun q hq => by
    rw [← ig_mem nL hq, h]; exact Int.dvd_mul_left _ d
  have h2 : e ∣ d := c'.dvd_of c.d1 fun q hq => by
    rw [← ig_mem nM hq, ← h]; exact Int.dvd_mul_left _ e
  have a1 := Int.le_of_dvd c'.d1 h1
  have a2 := Int.le_of_dvd c.d1 h2
  have de : d = e := by omega
  refine ⟨de, asc_ext c.asc c'.asc c.nz c'.nz fun p => ?_⟩
  have := h p
  rw [de] at this
  exact Int.eq_of_mul_eq_mul_right (by have := c'.d1; omega) this
/-- what stands for f / B -/
def St4 (d : Int) (L : List (Int × Int)) (B : Int) (f : Int → Int) : Prop := Cn d L ∧ ∀ p, ig L p * B = f p * d
theorem St4.unique {d e B C : Int} {L M : List (Int × Int)} {f g : Int → Int} (a : St4 d L B f) (b : St4 e M C g) (hB : 0 < B) (hC : 0 < C) (h : ∀ p, f p * C = g p * B) : d = e ∧ L = M := by
  refine a.1.unique b.1 fun p => ?_
  have h1 := a.2 p
  have h2 := b.2 p
  have h3 := h p
  have d0 := a.1.d1
  have e0 := b.1.d1
  -- (x e) (B C) = (y d) (B C)
  have : (ig L p * e) * (B * C) = (ig M p * d) * (B * C) := by
    calc (ig L p * e) * (B * C) = (ig L p * B) * (e * C) := by ac_rfl
      _ = (f p * d) * (e * C) := by rw [h1]
      _ = (f p * C) * (d * e) := by ac_rfl
      _ = (g p * B) * (d * e) := by rw [h3]
      _ = (g p * e) * (B * d) := by ac_rfl
      _ = (ig M p * C) * (B * d) := by rw [h2]
      _ = (ig M p * d) * (B * C) := by ac_rfl
  exact Int.eq_of_mul_eq_mul_right (by have := Int.mul_pos hB hC; omega) this
theorem St4.dvd {d B : Int} {L : List (Int × Int)} {f : Int → Int} (a : St4 d L B f) (hB : 0 < B) : d ∣ B :=
  a.1.dvd_of hB fun q hq => by rw [← ig_mem (asc_nodup a.1.asc) hq, a.2]; exact Int.dvd_mul_left _ d
theorem St4.le {d B : Int} {L : List (Int × Int)} {f : Int → Int} (a : St4 d L B f) (hB : 0 < B) : d ≤ B := Int.le_of_dvd hB (a.dvd hB)
/-- the parts are no greater than what they come from -/
theorem St4.abs {d B : Int} {L : List (Int × Int)} {f : Int → Int} (a : St4 d L B f) (hB : 0 < B) (p : Int) : (ig L p).natAbs ≤ (f p).natAbs := by
  have h1 := congrArg Int.natAbs (a.2 p)
  rw [Int.natAbs_mul, Int.natAbs_mul] at h1
  have h2 := a.le hB
  have h3 := a.1.d1
  have h4 : (f p).natAbs * d.natAbs ≤ (f p).natAbs * B.natAbs := Nat.mul_le_mul_left _ (by omega)
  rw [← h1] at h4
  exact Nat.le_of_mul_le_mul_right h4 (by omega)
theorem St4.zero {d B : Int} {L : List (Int × Int)} {f : Int → Int} (a : St4 d L B f) (hB : 0 < B) {q : Int × Int} (hq : q ∈ L) : f q.1 ≠ 0 := by
  intro z
  have h1 := a.2 q.1
  rw [z, Int.zero_mul, ig_mem (asc_nodup a.1.asc) hq] at h1
  rcases Int.mul_eq_zero.mp h1 with e | e
  · exact a.1.nz q hq e
  · omega
/-- how a form is made of a dict: the parts other than 0, divided -/
theorem cn_made {b : Int} {L ys : List (Int × Int)} (hb : 0 < b) (hn : (L.map (·.1)).Nodup) (hp : ∀ q ∈ L, ∃ p : Nat, q.1 = p ∧ Pr p ∧ p < 1000000)
    (perm : ys.Perm ((L.filter fun q => decide (q.2 ≠ 0)).map fun q => (q.1, q.2 / gl b (L.map (·.2))))) (srt : ys.Pairwise (fun a b => a.1 < b.1)) :
    St4 (b / gl b (L.map (·.2))) ys b (ig L) := by
  have g0 := gl_pos (L.map (·.2)) b hb
  obtain ⟨gb, gc⟩ := gl_dvd (L.map (·.2)) b
  generalize eg : gl b (L.map (·.2)) = g at *
  have mem : ∀ q ∈ ys, ∃ x ∈ L, x.2 ≠ 0 ∧ q = (x.1, x.2 / g) := fun q hq => by
    obtain ⟨x, hx, e⟩ := List.mem_map.mp (perm.mem_iff.mp hq)
    obtain ⟨h1, h2⟩ := List.mem_filter.mp hx
    exact ⟨x, h1, by simpa using h2, e.symm⟩
  have gx : ∀ x ∈ L, g ∣ x.2 := fun x hx => gc x.2 (List.mem_map.mpr ⟨x, hx, rfl⟩)
  obtain ⟨b', hb'⟩ := gb
  have bd : b / g = b' := by rw [hb']; exact Int.mul_ediv_cancel_left b' (by omega)
  have b'0 : 0 < b' := by
    rw [hb'] at hb
    exact Int.pos_of_mul_pos_right (b := b') (by exact hb) g0 |> fun h => h
  have igs : ∀ p, ig ys p * g = ig L p := fun p => by
    rcases ig_cases L p with e | e
    · rw [e]
      have : ig ys p = 0 := by
        apply ig_none
        intro q hq z
        obtain ⟨x, hx, nz, rfl⟩ := mem q hq
        have e2 := ig_mem hn hx
        have z' : x.1 = p := z
        rw [z', e] at e2
        exact nz e2.symm
      rw [this, Int.zero_mul]
    · by_cases z : ig L p = 0
      · rw [z]
        have : ig ys p = 0 := by
          apply ig_none
          intro q hq y
          obtain ⟨x, hx, nz, rfl⟩ := mem q hq
          have e2 := ig_mem hn hx
          have y' : x.1 = p := y
          rw [y', z] at e2
          exact nz e2.symm
        rw [this, Int.zero_mul]
      · have m1 : (p, ig L p / g) ∈ ys := by
          refine perm.mem_iff.mpr (List.mem_map.mpr ⟨(p, ig L p), List.mem_filter.mpr ⟨e, by simpa using z⟩, rfl⟩)
        have e2 := ig_mem (asc_nodup srt) m1
        have e2' : ig ys p = ig L p / g := e2
        rw [e2']
        exact Int.ediv_mul_cancel (gx _ e)
  refine ⟨⟨?_, srt, ?_, ?_, ?_⟩, fun p => ?_⟩
  · rw [bd]; exact b'0
  · intro q hq
    obtain ⟨x, hx, _, rfl⟩ := mem q hq
    exact hp x hx
  · intro q hq
    obtain ⟨x, hx, nz, rfl⟩ := mem q hq
    intro z
    have z' : x.2 / g = 0 := z
    have := Int.ediv_mul_cancel (gx x hx)
    rw [z', Int.zero_mul] at this
    exact nz this.symm
  · -- a common divisor h of the divided ones, times g, divides all; so it is 1
    have h0 := gl_pos (ys.map (·.2)) (b / g) (by rw [bd]; exact b'0)
    obtain ⟨hd1, hd2⟩ := gl_dvd (ys.map (·.2)) (b / g)
    generalize gl (b / g) (ys.map (·.2)) = h at *
    have hb2 : h * g ∣ b := by
      rw [bd] at hd1
      obtain ⟨c, hc⟩ := hd1
      exact ⟨c, by rw [hb', hc]; ac_rfl⟩
    have hg : h * g ∣ g := by
      conv => rhs; rw [← eg]
      refine gl_greatest _ _ _ hb2 fun c hc => ?_
      obtain ⟨x, hx, rfl⟩ := List.mem_map.mp hc
      have e1 := ig_mem hn hx
      rw [← e1, ← igs]
      rcases ig_cases ys x.1 with z | z
      · rw [z, Int.zero_mul]; exact Int.dvd_zero _
      · obtain ⟨c, hc⟩ := hd2 (ig ys x.1) (List.mem_map.mpr ⟨_, z, rfl⟩)
        exact ⟨c, by rw [hc]; ac_rfl⟩
    have := Int.le_of_dvd g0 hg
    have h1 : ¬ 2 ≤ h := fun z => by
      have : 2 * g ≤ h * g := Int.mul_le_mul_of_nonneg_right z (by omega)
      omega
    omega
  · rw [bd, hb', ← igs p]; ac_rfl
end Am

namespace Am
open Classical
/-! sums of logarithms, by primes -/
/-- how often p divides n, as an int -/
def vi (p n : Int) : Int := ((vp p.toNat n.toNat : Nat) : Int)
/-- the factor of log p in the sum of f log n over the pairs (f, n) -/
noncomputable def lg (M : List (Int × Int)) (p : Int) : Int := if 0 ≤ p ∧ Pr p.toNat then (M.map fun q => q.1 * vi p q.2).sum else 0
theorem lg_nil (p : Int) : lg [] p = 0 := by unfold lg; split <;> rfl
theorem lg_append (M N : List (Int × Int)) (p : Int) : lg (M ++ N) p = lg M p + lg N p := by
  unfold lg
  split
  · rw [List.map_append, List.sum_append]
  · rfl
theorem lg_pr (M : List (Int × Int)) {p : Nat} (h : Pr p) : lg M p = (M.map fun q => q.1 * vi p q.2).sum := by
  unfold lg
  rw [if_pos ⟨by omega, by rw [Int.toNat_natCast]; exact h⟩]
theorem lg_no (M : List (Int × Int)) {p : Int} (h : ¬ ∃ n : Nat, p = n ∧ Pr n) : lg M p = 0 := by
  unfold lg
  rw [if_neg]
  intro z
  exact h ⟨p.toNat, by omega, z.2⟩
theorem lg_one (f n p : Int) : lg [(f, n)] p = if 0 ≤ p ∧ Pr p.toNat then f * vi p n else 0 := by
  unfold lg
  split
  · simp
  · rfl
/-- ints without repeats within 0 .. m are no more than m + 1 -/
theorem nodup_le : ∀ (m : Nat) (l : List Int), l.Nodup → (∀ x ∈ l, 0 ≤ x ∧ x < m) → l.length ≤ m
  | 0, l, _, h => by
    cases l with
    | nil => exact Nat.le_refl _
    | cons x r => have := h x List.mem_cons_self; omega
  | m + 1, l, nd, h => by
    have h1 := nodup_le m (l.filter fun x => decide (x ≠ (m : Int))) (nd.sublist List.filter_sublist) (fun x hx => by
      obtain ⟨a, b⟩ := List.mem_filter.mp hx
      have := h x a
      have : x ≠ (m : Int) := by simpa using b
      omega)
    have h2 : l.length ≤ (l.filter fun x => decide (x ≠ (m : Int))).length + 1 := by
      clear h1
      induction l with
      | nil => simp
      | cons x r ih =>
        obtain ⟨n1, n2⟩ := List.nodup_cons.mp nd
        by_cases e : x = (m : Int)
        · have e2 : (r.filter fun x => decide (x ≠ (m : Int))) = r := by
            rw [List.filter_eq_self]
            intro y hy
            have : y ≠ (m : Int) := fun z => n1 (by rw [e, ← z]; exact hy)
            simpa using this
          rw [List.filter_cons_of_neg (by simp [e]), e2, List.length_cons]
          omega
        · rw [List.filter_cons_of_pos (by simpa using e), List.length_cons, List.length_cons]
          have := ih n2 (fun y hy => h y (List.mem_cons_of_mem _ hy))
          omega
    omega
end Am

namespace Am
/-! the law's own greatest common divisor -/
def SS (a b : Int) : Prop := (0 ≤ a ∧ 0 ≤ b) ∨ (a ≤ 0 ∧ b ≤ 0)
theorem fm_neg (a b : Int) : a.fmod b = -((-a).fmod (-b)) := by rw [Int.neg_fmod_neg, Int.neg_neg]
theorem fm_gcd (a b : Int) : Nat.gcd b.natAbs (a.fmod b).natAbs = Nat.gcd a.natAbs b.natAbs := by
  have key : ∀ d : Nat, d ∣ b.natAbs → (d ∣ (a.fmod b).natAbs ↔ d ∣ a.natAbs) := by
    intro d h
    rw [← Int.ofNat_dvd_left, ← Int.ofNat_dvd_left, Int.fmod_def]
    have hb : (d : Int) ∣ b := Int.ofNat_dvd_left.mpr h
    have h2 : (d : Int) ∣ b * a.fdiv b := Int.dvd_trans hb ⟨_, rfl⟩
    constructor
    · intro z
      have := Int.dvd_add z h2
      rwa [Int.sub_add_cancel] at this
    · intro z; exact Int.dvd_sub z h2
  apply Nat.dvd_antisymm
  · refine Nat.dvd_gcd ?_ (Nat.gcd_dvd_left _ _)
    exact (key _ (Nat.gcd_dvd_left _ _)).mp (Nat.gcd_dvd_right _ _)
  · refine Nat.dvd_gcd (Nat.gcd_dvd_right _ _) ?_
    exact (key _ (Nat.gcd_dvd_right _ _)).mpr (Nat.gcd_dvd_left _ _)
theorem fm_small {a b : Int} (hb : b ≠ 0) : (a.fmod b).natAbs < b.natAbs ∧ SS b (a.fmod b) := by
  by_cases h : 0 < b
  · have h1 := Int.fmod_lt_of_pos a h
    have h2 := Int.fmod_nonneg_of_pos a h
    exact ⟨by omega, .inl ⟨by omega, h2⟩⟩
  · have hn : 0 < -b := by omega
    have h1 := Int.fmod_lt_of_pos (-a) hn
    have h2 := Int.fmod_nonneg_of_pos (-a) hn
    have e := fm_neg a b
    exact ⟨by omega, .inr ⟨by omega, by omega⟩⟩
theorem nat_half {x y : Nat} (hy : 0 < y) (h : y ≤ x) : 2 * (x % y) < x := by
  have h1 := Nat.mod_lt x hy
  have h2 := Nat.div_add_mod x y
  have h3 : 1 ≤ x / y := (Nat.one_le_div_iff hy).mpr h
  have h4 : y * 1 ≤ y * (x / y) := Nat.mul_le_mul_left _ h3
  omega
theorem fm_half {a b : Int} (hb : b ≠ 0) (s : SS a b) (h : b.natAbs ≤ a.natAbs) : 2 * (a.fmod b).natAbs < a.natAbs := by
  have pos : ∀ x y : Int, 0 ≤ x → 0 < y → y.natAbs ≤ x.natAbs → 2 * (x.fmod y).natAbs < x.natAbs := by
    intro x y hx hy hl
    obtain ⟨n, rfl⟩ := Int.eq_ofNat_of_zero_le hx
    obtain ⟨m, rfl⟩ := Int.eq_ofNat_of_zero_le (Int.le_of_lt hy)
    rw [Int.fmod_eq_emod_of_nonneg _ (by omega)]
    have := nat_half (x := n) (y := m) (by omega) (by omega)
    have e : ((n : Int) % (m : Int)).natAbs = n % m := by
      rw [← Int.natCast_emod, Int.natAbs_natCast]
    rw [e, Int.natAbs_natCast]; exact this
  rcases s with ⟨h1, h2⟩ | ⟨h1, h2⟩
  · exact pos a b h1 (by omega) h
  · have := pos (-a) (-b) (by omega) (by omega) (by omega)
    rw [fm_neg a b]; omega
structure GI (g i : Nat) (a b : Int) : Prop where
  g : Nat.gcd a.natAbs b.natAbs = g
  m : (i = 0 ∧ b.natAbs < 2 ^ 64) ∨ (SS a b ∧ b.natAbs < a.natAbs ∧ a.natAbs * b.natAbs * 2 ^ (i - 1) < 2 ^ 128)
theorem GI.step {g i : Nat} {a b : Int} (h : GI g i a b) (hb : b ≠ 0) : GI g (i + 1) b (a.fmod b) := by
  obtain ⟨f1, f2⟩ := fm_small (a := a) hb
  refine ⟨by rw [fm_gcd]; exact h.g, .inr ⟨f2, f1, ?_⟩⟩
  rcases h.m with ⟨rfl, h2⟩ | ⟨s, h1, h2⟩
  · show b.natAbs * (a.fmod b).natAbs * 2 ^ 0 < 2 ^ 128
    rw [Nat.pow_zero, Nat.mul_one]
    have : b.natAbs * (a.fmod b).natAbs < 2 ^ 64 * 2 ^ 64 := Nat.mul_lt_mul_of_lt_of_le h2 (by omega) (by omega)
    omega
  · have h3 := fm_half hb s (by omega)
    show b.natAbs * (a.fmod b).natAbs * 2 ^ i < 2 ^ 128
    cases i with
    | zero =>
      rw [Nat.pow_zero, Nat.mul_one]
      rw [show (0 - 1 : Nat) = 0 from rfl, Nat.pow_zero, Nat.mul_one] at h2
      have : b.natAbs * (a.fmod b).natAbs ≤ a.natAbs * b.natAbs := by
        rw [Nat.mul_comm]; exact Nat.mul_le_mul_right _ (by omega)
      omega
    | succ j =>
      rw [show j + 1 - 1 = j by omega] at h2
      rw [Nat.pow_succ]
      have : b.natAbs * (a.fmod b).natAbs * (2 ^ j * 2) ≤ a.natAbs * b.natAbs * 2 ^ j := by
        have e : b.natAbs * (a.fmod b).natAbs * (2 ^ j * 2) = (2 * (a.fmod b).natAbs) * b.natAbs * 2 ^ j := by
          simp only [Nat.mul_comm, Nat.mul_left_comm, Nat.mul_assoc]
        rw [e]
        exact Nat.mul_le_mul_right _ (Nat.mul_le_mul_right _ (by omega))
      omega
theorem GI.out {g i : Nat} {a b : Int} (h : GI g i a b) (hi : 129 ≤ i) : b = 0 := by
  rcases h.m with ⟨rfl, _⟩ | ⟨_, h1, h2⟩
  · omega
  · by_cases hb : b = 0
    · exact hb
    · exfalso
      have p1 : 1 ≤ a.natAbs * b.natAbs := Nat.mul_pos (by omega) (by omega)
      have p2 : 2 ^ 128 ≤ 2 ^ (i - 1) := Nat.pow_le_pow_right (by omega) (by omega)
      have p3 : 1 * 2 ^ (i - 1) ≤ a.natAbs * b.natAbs * 2 ^ (i - 1) := Nat.mul_le_mul_right _ p1
      omega
theorem GI.end {g i : Nat} {a : Int} (h : GI g i a 0) : a.natAbs = g := by
  have := h.g
  rwa [Int.natAbs_zero, Nat.gcd_zero_right] at this
/-- no divisor up to the root -/
theorem pr_sq {n : Nat} (hn : 2 ≤ n) : (∀ d, 2 ≤ d → d * d ≤ n → n % d ≠ 0) ↔ Pr n := by
  obtain ⟨r, h1, h2⟩ : ∃ r, r * r ≤ n ∧ n < (r + 1) * (r + 1) := by
    have : ∀ m, ∃ r, r * r ≤ m ∧ m < (r + 1) * (r + 1) := by
      intro m
      induction m with
      | zero => exact ⟨0, by omega, by omega⟩
      | succ m ih =>
        obtain ⟨r, a, b⟩ := ih
        by_cases c : (r + 1) * (r + 1) ≤ m + 1
        · refine ⟨r + 1, c, ?_⟩
          have : (r + 1 + 1) * (r + 1 + 1) = (r + 1) * (r + 1) + 2 * (r + 1) + 1 := by
            rw [Nat.add_mul, Nat.mul_add]; omega
          omega
        · exact ⟨r, by omega, by omega⟩
    exact this n
  rw [← pr_root hn h1 h2]
  constructor
  · intro h d d2 dr
    have : d * d ≤ r * r := Nat.mul_self_le_mul_self (by omega)
    exact h d d2 (by omega)
  · intro h d d2 dd
    refine h d d2 ?_
    apply Nat.lt_of_not_le
    intro z
    have := Nat.mul_self_le_mul_self z
    omega
end Am

namespace Am
/-! what is told by all primes -/
theorem prime_in : ∀ n : Nat, 2 ≤ n → ∃ p, Pr p ∧ p ∣ n := by
  intro n
  induction n using Nat.strongRecOn with
  | _ n ih =>
    intro h
    by_cases pr : Pr n
    · exact ⟨n, pr, Nat.dvd_refl _⟩
    · have : ∃ d, d ∣ n ∧ d ≠ 1 ∧ d ≠ n := by
        apply Classical.byContradiction
        intro z
        apply pr
        refine ⟨h, fun d hd => ?_⟩
        apply Classical.byContradiction
        intro y
        exact z ⟨d, hd, fun e => y (.inl e), fun e => y (.inr e)⟩
      obtain ⟨d, hd, d1, dn⟩ := this
      have dl := Nat.le_of_dvd (by omega) hd
      have d0 : d ≠ 0 := by
        rintro rfl
        have := Nat.eq_zero_of_zero_dvd hd
        omega
      obtain ⟨p, pp, pd⟩ := ih d (by omega) (by omega)
      exact ⟨p, pp, Nat.dvd_trans pd hd⟩
theorem vp_pos_of {p n : Nat} (hp : Pr p) (hn : 0 < n) (h : p ∣ n) : vp p n ≠ 0 := by
  rw [vp_yes hp.two hn (Nat.mod_eq_zero_of_dvd h)]; omega
theorem dvd_of_vp {p n : Nat} (h : vp p n ≠ 0) : p ∣ n := by
  apply Classical.byContradiction
  intro z
  exact h (vp_no fun y => z (Nat.dvd_of_mod_eq_zero y))
theorem eq_of_vp : ∀ a b : Nat, 0 < a → 0 < b → (∀ p, Pr p → vp p a = vp p b) → a = b := by
  intro a
  induction a using Nat.strongRecOn with
  | _ a ih =>
    intro b ha hb h
    by_cases a1 : a = 1
    · subst a1
      apply Classical.byContradiction
      intro z
      obtain ⟨p, pp, pd⟩ := prime_in b (by omega)
      have := h p pp
      rw [vp_one pp.two] at this
      exact vp_pos_of pp hb pd this.symm
    · obtain ⟨p, pp, pd⟩ := prime_in a (by omega)
      have hb2 : p ∣ b := dvd_of_vp (by rw [← h p pp]; exact vp_pos_of pp ha pd)
      obtain ⟨a', rfl⟩ := pd
      obtain ⟨b', rfl⟩ := hb2
      have p2 := pp.two
      have ha' : 0 < a' := Nat.pos_of_mul_pos_left ha
      have hb' : 0 < b' := Nat.pos_of_mul_pos_left hb
      have lt : a' < p * a' := by
        have : 2 * a' ≤ p * a' := Nat.mul_le_mul_right _ p2
        omega
      rw [ih a' lt b' ha' hb' fun q hq => ?_]
      have := h q hq
      rw [vp_mul hq _ _ (by omega) ha', vp_mul hq _ _ (by omega) hb'] at this
      omega
/-- two pairs of products compare alike if their primes are alike, by B and d -/
theorem cmp_alike {a b c e B d : Nat} (ha : 0 < a) (hb : 0 < b) (hc : 0 < c) (he : 0 < e) (hB : 0 < B) (hd : 0 < d)
    (h : ∀ p, Pr p → vp p a * B + vp p e * d = vp p c * d + vp p b * B) : (a < b ↔ c < e) ∧ (b < a ↔ e < c) := by
  have key : a ^ B * e ^ d = c ^ d * b ^ B := by
    refine eq_of_vp _ _ (Nat.mul_pos (Nat.pow_pos ha) (Nat.pow_pos he)) (Nat.mul_pos (Nat.pow_pos hc) (Nat.pow_pos hb)) fun p hp => ?_
    rw [vp_mul hp _ _ (Nat.pow_pos ha) (Nat.pow_pos he), vp_mul hp _ _ (Nat.pow_pos hc) (Nat.pow_pos hb), vp_pow hp ha, vp_pow hp he, vp_pow hp hc, vp_pow hp hb]
    have := h p hp
    rw [Nat.mul_comm B, Nat.mul_comm d, Nat.mul_comm d, Nat.mul_comm B]; exact this
  have lt_pow : ∀ {x y n : Nat}, 0 < n → (x < y ↔ x ^ n < y ^ n) := by
    intro x y n hn
    exact (Nat.pow_lt_pow_iff_left (by omega)).symm
  have pb : 0 < b ^ B := Nat.pow_pos hb
  have pe : 0 < e ^ d := Nat.pow_pos he
  refine ⟨?_, ?_⟩
  · rw [lt_pow hB, lt_pow (x := c) hd]
    constructor
    · intro z
      have h1 : a ^ B * e ^ d < b ^ B * e ^ d := Nat.mul_lt_mul_of_pos_right z pe
      rw [key, Nat.mul_comm (b ^ B)] at h1
      exact Nat.lt_of_mul_lt_mul_right h1
    · intro z
      have h1 : c ^ d * b ^ B < e ^ d * b ^ B := Nat.mul_lt_mul_of_pos_right z pb
      rw [← key, Nat.mul_comm (e ^ d)] at h1
      exact Nat.lt_of_mul_lt_mul_right h1
  · rw [lt_pow hB, lt_pow (x := e) hd]
    constructor
    · intro z
      have h1 : b ^ B * e ^ d < a ^ B * e ^ d := Nat.mul_lt_mul_of_pos_right z pe
      rw [key, Nat.mul_comm (b ^ B)] at h1
      exact Nat.lt_of_mul_lt_mul_right h1
    · intro z
      have h1 : e ^ d * b ^ B < c ^ d * b ^ B := Nat.mul_lt_mul_of_pos_right z pb
      rw [← key, Nat.mul_comm (e ^ d)] at h1
      exact Nat.lt_of_mul_lt_mul_right h1
/-! the means -/
theorem bern : ∀ (k : Nat) (z t : Int), 0 ≤ z → 0 ≤ z + t → z ^ (k + 1) + (k + 1 : Nat) * (z ^ k * t) ≤ (z + t) ^ (k + 1)
  | 0, z, t, _, _ => by simp [Int.pow_succ]
  | k + 1, z, t, h0, h1 => by
    have ih := bern k z t h0 h1
    have h2 := Int.mul_le_mul_of_nonneg_right ih h1
    have e1 : (z + t) ^ (k + 1 + 1) = (z + t) ^ (k + 1) * (z + t) := Int.pow_succ ..
    have pz : 0 ≤ z ^ k := Int.pow_nonneg h0
    have t2 : 0 ≤ z ^ k * (t * t) := Int.mul_nonneg pz (by
      rcases Int.le_total 0 t with h | h
      · exact Int.mul_nonneg h h
      · exact Int.mul_nonneg_of_nonpos_of_nonpos h h)
    have t3 : 0 ≤ ((k + 1 : Nat) : Int) * (z ^ k * (t * t)) := Int.mul_nonneg (by omega) t2
    have e2 : (z ^ (k + 1) + ((k + 1 : Nat) : Int) * (z ^ k * t)) * (z + t) = z ^ (k + 1 + 1) + ((k + 1 + 1 : Nat) : Int) * (z ^ (k + 1) * t) + ((k + 1 : Nat) : Int) * (z ^ k * (t * t)) := by
      rw [Int.pow_succ z (k + 1), Int.pow_succ z k, Int.natCast_add (k + 1) 1]
      generalize z ^ k = w
      generalize ((k + 1 : Nat) : Int) = c
      have : ((1 : Nat) : Int) = 1 := rfl
      rw [this]
      simp only [Int.add_mul, Int.mul_add, Int.one_mul, Int.mul_one, Int.mul_assoc, Int.mul_comm, Int.mul_left_comm, Int.add_assoc, Int.add_left_comm, Int.add_comm]
    rw [e1]
    omega
theorem bern_eq {k : Nat} {z t : Int} (h0 : 0 < z) (h1 : 0 ≤ z + t) (hk : 1 ≤ k) (h : z ^ (k + 1) + (k + 1 : Nat) * (z ^ k * t) = (z + t) ^ (k + 1)) : t = 0 := by
  obtain ⟨j, rfl⟩ : ∃ j, k = j + 1 := ⟨k - 1, by omega⟩
  have ih := bern j z t (by omega) h1
  have h2 := Int.mul_le_mul_of_nonneg_right ih h1
  have e1 : (z + t) ^ (j + 1 + 1) = (z + t) ^ (j + 1) * (z + t) := Int.pow_succ ..
  have e2 : (z ^ (j + 1) + ((j + 1 : Nat) : Int) * (z ^ j * t)) * (z + t) = z ^ (j + 1 + 1) + ((j + 1 + 1 : Nat) : Int) * (z ^ (j + 1) * t) + ((j + 1 : Nat) : Int) * (z ^ j * (t * t)) := by
    rw [Int.pow_succ z (j + 1), Int.pow_succ z j, Int.natCast_add (j + 1) 1]
    generalize z ^ j = w
    generalize ((j + 1 : Nat) : Int) = c
    have : ((1 : Nat) : Int) = 1 := rfl
    rw [this]
    simp only [Int.add_mul, Int.mul_add, Int.one_mul, Int.mul_one, Int.mul_assoc, Int.mul_comm, Int.mul_left_comm, Int.add_assoc, Int.add_left_comm, Int.add_comm]
  rw [e1] at h
  apply Classical.byContradiction
  intro nt
  have tt : 0 < t * t := by
    rcases Int.lt_or_gt_of_ne nt with y | y
    · exact Int.mul_pos_of_neg_of_neg y y
    · exact Int.mul_pos y y
  have t3 : 0 < ((j + 1 : Nat) : Int) * (z ^ j * (t * t)) := Int.mul_pos (by omega) (Int.mul_pos (Int.pow_pos h0) tt)
  omega
def prodI : List Int → Int
  | [] => 1
  | x :: r => x * prodI r
theorem prodI_pos : ∀ {xs : List Int}, (∀ x ∈ xs, 0 < x) → 0 < prodI xs
  | [], _ => by show (0 : Int) < 1; omega
  | x :: r, h => Int.mul_pos (h x List.mem_cons_self) (prodI_pos fun y hy => h y (List.mem_cons_of_mem _ hy))
theorem prodI_append : ∀ (a b : List Int), prodI (a ++ b) = prodI a * prodI b
  | [], b => by show prodI b = 1 * prodI b; rw [Int.one_mul]
  | x :: r, b => by show x * prodI (r ++ b) = x * prodI r * prodI b; rw [prodI_append, Int.mul_assoc]
theorem sumI_pos : ∀ {xs : List Int}, xs ≠ [] → (∀ x ∈ xs, 0 < x) → 0 < xs.sum
  | [], h, _ => absurd rfl h
  | [x], _, h => by have := h x List.mem_cons_self; simp; exact this
  | x :: y :: r, _, h => by
    have h1 := h x List.mem_cons_self
    have h2 := sumI_pos (xs := y :: r) (by simp) fun z hz => h z (List.mem_cons_of_mem _ hz)
    rw [List.sum_cons]; omega
/-- the two means of positive ints -/
theorem means : ∀ (xs : List Int), (∀ x ∈ xs, 0 < x) → ((xs.length : Nat) : Int) ^ xs.length * prodI xs ≤ xs.sum ^ xs.length ∧
    (((xs.length : Nat) : Int) ^ xs.length * prodI xs = xs.sum ^ xs.length → ∀ x ∈ xs, ∀ y ∈ xs, x = y)
  | [], _ => ⟨by simp [prodI], fun _ x hx => by cases hx⟩
  | [x], _ => ⟨by simp [prodI, Int.pow_succ], fun _ a ha b hb => by rw [List.mem_singleton.mp ha, List.mem_singleton.mp hb]⟩
  | x :: y :: r, h => by
    have hr : ∀ z ∈ y :: r, 0 < z := fun z hz => h z (List.mem_cons_of_mem _ hz)
    obtain ⟨ih1, ih2⟩ := means (y :: r) hr
    have S0 := sumI_pos (xs := y :: r) (by simp) hr
    have x0 := h x List.mem_cons_self
    have P0 := prodI_pos hr
    have e1 : (x :: y :: r).sum = x + (y :: r).sum := List.sum_cons
    have e2 : prodI (x :: y :: r) = x * prodI (y :: r) := rfl
    have e3 : (x :: y :: r).length = (y :: r).length + 1 := rfl
    have m1 : 1 ≤ (y :: r).length := by rw [List.length_cons]; omega
    have mem : ∀ z ∈ y :: r, z = y ∨ True := fun _ _ => .inr trivial
    have hy0 : y ∈ y :: r := List.mem_cons_self
    rw [e1, e2, e3]
    have all : ∀ c : Int, (∀ z ∈ y :: r, z = c) → (y :: r).sum = ((y :: r).length : Int) * c := by
      intro c
      generalize y :: r = l
      intro hl
      clear ih1 ih2 S0 P0 e1 e2 e3 m1 mem hy0 hr h
      induction l with
      | nil => simp
      | cons a t ih =>
        rw [List.sum_cons, ih fun z hz => hl z (List.mem_cons_of_mem _ hz), hl a List.mem_cons_self, List.length_cons, Int.natCast_add, Int.add_mul]; simp; omega
    generalize (y :: r).sum = S at *
    generalize prodI (y :: r) = P at *
    generalize (y :: r).length = m at *
    -- step
    have b := bern m (((m + 1 : Nat) : Int) * S) (m * x - S) (by have := Int.mul_pos (a := ((m + 1 : Nat) : Int)) (b := S) (by omega) S0; omega) (by
      have e : ((m + 1 : Nat) : Int) * S + (m * x - S) = m * S + m * x := by rw [Int.natCast_add, Int.add_mul]; simp; omega
      rw [e]
      have := Int.mul_pos (a := (m : Int)) (b := S) (by omega) S0
      have := Int.mul_pos (a := (m : Int)) (b := x) (by omega) x0
      omega)
    have e4 : ((m + 1 : Nat) : Int) * S + (m * x - S) = m * (x + S) := by rw [Int.natCast_add, Int.add_mul, Int.mul_add]; simp; omega
    have e5 : (((m + 1 : Nat) : Int) * S) ^ (m + 1) + ((m + 1 : Nat) : Int) * ((((m + 1 : Nat) : Int) * S) ^ m * (m * x - S)) = m * (((m + 1 : Nat) : Int) ^ (m + 1) * S ^ m * x) := by
      rw [Int.pow_succ (((m + 1 : Nat) : Int) * S) m, Int.mul_left_comm ((m + 1 : Nat) : Int), ← Int.mul_add]
      rw [show ((m + 1 : Nat) : Int) * S + ((m + 1 : Nat) : Int) * (m * x - S) = ((m + 1 : Nat) : Int) * (m * x) by rw [← Int.mul_add]; congr 1; omega]
      rw [Int.mul_pow, Int.pow_succ ((m + 1 : Nat) : Int) m]
      simp only [Int.mul_assoc, Int.mul_comm, Int.mul_left_comm]
    rw [e4, e5] at b
    have e6 : ((m : Int) * (x + S)) ^ (m + 1) = m * (m ^ m * (x + S) ^ (m + 1)) := by
      rw [Int.mul_pow, Int.pow_succ (m : Int)]
      simp only [Int.mul_assoc, Int.mul_comm, Int.mul_left_comm]
    rw [e6] at b
    have m0 : (0 : Int) < m := by omega
    have b2 : ((m + 1 : Nat) : Int) ^ (m + 1) * S ^ m * x ≤ m ^ m * (x + S) ^ (m + 1) := Int.le_of_mul_le_mul_left b m0
    have w0 : (0 : Int) < ((m + 1 : Nat) : Int) ^ (m + 1) := Int.pow_pos (by omega)
    have mm0 : (0 : Int) < (m : Int) ^ m := Int.pow_pos m0
    have c1 : ((m + 1 : Nat) : Int) ^ (m + 1) * ((m : Int) ^ m * P) * x ≤ ((m + 1 : Nat) : Int) ^ (m + 1) * S ^ m * x := Int.mul_le_mul_of_nonneg_right (Int.mul_le_mul_of_nonneg_left ih1 (by omega)) (by omega)
    have e7 : ((m + 1 : Nat) : Int) ^ (m + 1) * ((m : Int) ^ m * P) * x = (m : Int) ^ m * (((m + 1 : Nat) : Int) ^ (m + 1) * (x * P)) := by
      simp only [Int.mul_assoc, Int.mul_comm, Int.mul_left_comm]
    refine ⟨?_, fun eq => ?_⟩
    · refine Int.le_of_mul_le_mul_left (a := (m : Int) ^ m) ?_ mm0
      rw [← e7]; exact Int.le_trans c1 b2
    · have f1 : (m : Int) ^ m * (((m + 1 : Nat) : Int) ^ (m + 1) * (x * P)) = m ^ m * (x + S) ^ (m + 1) := by rw [eq]
      rw [← e7] at f1
      have f2 : ((m + 1 : Nat) : Int) ^ (m + 1) * ((m : Int) ^ m * P) * x = ((m + 1 : Nat) : Int) ^ (m + 1) * S ^ m * x := by omega
      have f3 : ((m + 1 : Nat) : Int) ^ (m + 1) * S ^ m * x = m ^ m * (x + S) ^ (m + 1) := by omega
      have f4 : (m : Int) ^ m * P = S ^ m := Int.eq_of_mul_eq_mul_left (by omega) (Int.eq_of_mul_eq_mul_right (by omega) f2)
      have allq := ih2 f4
      have sy := all y fun z hz => allq z hz y hy0
      have t0 : m * x - S = 0 := by
        refine bern_eq (k := m) (z := ((m + 1 : Nat) : Int) * S) (Int.mul_pos (by omega) S0) ?_ m1 ?_
        · rw [e4]; exact Int.mul_nonneg (by omega) (by omega)
        · rw [e4, e5, e6, f3]
      have xy : x = y := by
        rw [sy] at t0
        exact Int.eq_of_mul_eq_mul_left (a := (m : Int)) (by omega) (by omega)
      intro a ha b hb
      have va : a = y := by
        rcases List.mem_cons.mp ha with e | e
        · rw [e, xy]
        · exact allq a e y hy0
      have vb : b = y := by
        rcases List.mem_cons.mp hb with e | e
        · rw [e, xy]
        · exact allq b e y hy0
      rw [va, vb]
end Am

namespace Am
/-! counts -/
theorem ipp {x : Int} (n : Nat) (h : 0 < x) : 0 < x ^ n := Int.pow_pos h
theorem ipl {x y : Int} (h0 : 0 ≤ x) (h : x ≤ y) : ∀ n : Nat, x ^ n ≤ y ^ n
  | 0 => by rw [Int.pow_zero, Int.pow_zero]; exact Int.le_refl _
  | n + 1 => by
    rw [Int.pow_succ, Int.pow_succ]
    exact Int.mul_le_mul (ipl h0 h n) h h0 (Int.pow_nonneg (by omega))
/-- the product of n ^ n -/
def ee (ns : List Int) : Int := prodI (ns.map fun n => n ^ n.toNat)
theorem ee_pos {ns : List Int} (h : ∀ n ∈ ns, 0 < n) : 0 < ee ns := by
  refine prodI_pos fun x hx => ?_
  obtain ⟨n, hn, rfl⟩ := List.mem_map.mp hx
  exact Int.pow_pos (h n hn)
theorem ee_append (a b : List Int) : ee (a ++ b) = ee a * ee b := by
  unfold ee; rw [List.map_append, prodI_append]
theorem ee_cons (n : Int) (r : List Int) : ee (n :: r) = n ^ n.toNat * ee r := rfl
theorem sum0 {ns : List Int} (h : ∀ n ∈ ns, 0 < n) : 0 ≤ ns.sum := by
  cases ns with
  | nil => simp
  | cons x r => exact Int.le_of_lt (sumI_pos (by simp) h)
theorem sum_toNat {x : Int} {r : List Int} (h : ∀ n ∈ x :: r, 0 < n) : (x :: r).sum.toNat = x.toNat + r.sum.toNat := by
  have h1 := h x List.mem_cons_self
  have h2 := sum0 (ns := r) fun y hy => h y (List.mem_cons_of_mem _ hy)
  rw [List.sum_cons]; omega
theorem prodI_rep (n : Nat) (x : Int) : prodI (List.replicate n x) = x ^ n := by
  induction n with
  | zero => show (1 : Int) = x ^ 0; rw [Int.pow_zero]
  | succ k ih => rw [List.replicate_succ]; show x * _ = _; rw [ih, Int.pow_succ, Int.mul_comm]
theorem sumI_rep (n : Nat) (x : Int) : (List.replicate n x).sum = n * x := by
  induction n with
  | zero => simp
  | succ k ih => rw [List.replicate_succ, List.sum_cons, ih, Int.natCast_add, Int.add_mul]; simp; omega
theorem dvd_prodI {n : Int} : ∀ {ns : List Int}, n ∈ ns → n ∣ prodI ns
  | x :: r, h => by
    rcases List.mem_cons.mp h with e | h
    · rw [e]; exact ⟨prodI r, rfl⟩
    · obtain ⟨c, e⟩ := dvd_prodI h
      exact ⟨x * c, by show x * prodI r = _; rw [e]; exact Int.mul_left_comm ..⟩
/-- n copies of D / n for each n -/
def cop (D : Int) (ns : List Int) : List Int := ns.flatMap fun n => List.replicate n.toNat (D / n)
theorem cop_cons (D n : Int) (r : List Int) : cop D (n :: r) = List.replicate n.toNat (D / n) ++ cop D r := rfl
theorem cop_facts {D : Int} (hD : 0 < D) : ∀ {l : List Int}, (∀ n ∈ l, 0 < n ∧ n ∣ D) →
    (cop D l).length = l.sum.toNat ∧ (cop D l).sum = l.length * D ∧ prodI (cop D l) * ee l = D ^ l.sum.toNat ∧ ∀ x ∈ cop D l, 0 < x
  | [], _ => ⟨rfl, by show (0 : Int) = ((0 : Nat) : Int) * D; simp, by show (1 : Int) * 1 = D ^ 0; simp, by intro x hx; cases hx⟩
  | n :: r, h => by
    obtain ⟨n0, nd⟩ := h n List.mem_cons_self
    obtain ⟨h1, h2, h3, h4⟩ := cop_facts hD (l := r) fun y hy => h y (List.mem_cons_of_mem _ hy)
    have hs := sum_toNat (x := n) (r := r) fun y hy => (h y hy).1
    obtain ⟨c, hc⟩ := nd
    have ec : D / n = c := by rw [hc]; exact Int.mul_ediv_cancel_left _ (by omega)
    have en : ((n.toNat : Nat) : Int) = n := by omega
    rw [cop_cons, ec, hs]
    refine ⟨?_, ?_, ?_, ?_⟩
    · rw [List.length_append, List.length_replicate, h1]
    · rw [List.sum_append, sumI_rep, en, h2, ← hc, List.length_cons, Int.natCast_add, Int.add_mul]; simp; omega
    · rw [prodI_append, prodI_rep, ee_cons, Int.pow_add, ← h3]
      have : c ^ n.toNat * n ^ n.toNat = D ^ n.toNat := by rw [← Int.mul_pow, Int.mul_comm c, ← hc]
      rw [← this]
      simp only [Int.mul_assoc, Int.mul_comm, Int.mul_left_comm]
    · intro x hx
      rcases List.mem_append.mp hx with hx | hx
      · rw [(List.mem_replicate.mp hx).2]
        apply Int.pos_of_mul_pos_right (a := n) <;> omega
      · exact h4 x hx
/-- a spread is at most the logarithm of how many counts there are -/
theorem ent_le {ns : List Int} (h : ∀ n ∈ ns, 0 < n) : ns.sum ^ ns.sum.toNat ≤ (ns.length : Int) ^ ns.sum.toNat * ee ns ∧
    (ns.sum ^ ns.sum.toNat = (ns.length : Int) ^ ns.sum.toNat * ee ns → ∀ x ∈ ns, ∀ y ∈ ns, x = y) := by
  have D0 := prodI_pos h
  obtain ⟨h1, h2, h3, h4⟩ := cop_facts D0 (l := ns) fun n hn => ⟨h n hn, dvd_prodI hn⟩
  obtain ⟨m1, m2⟩ := means (cop (prodI ns) ns) h4
  have s0 := sum0 h
  have E0 := ee_pos h
  have P0 := prodI_pos h4
  have DN := ipp (ns.sum.toNat) D0
  have eN : ((ns.sum.toNat : Nat) : Int) = ns.sum := by omega
  rw [h1, h2, eN, Int.mul_pow] at m1 m2
  generalize hD : prodI ns = D at *
  have l1 : ns.sum ^ ns.sum.toNat * prodI (cop D ns) * ee ns = ns.sum ^ ns.sum.toNat * D ^ ns.sum.toNat := by rw [Int.mul_assoc, h3]
  have l2 : (ns.length : Int) ^ ns.sum.toNat * D ^ ns.sum.toNat * ee ns = (ns.length : Int) ^ ns.sum.toNat * ee ns * D ^ ns.sum.toNat := Int.mul_right_comm ..
  refine ⟨?_, fun eq => ?_⟩
  · refine Int.le_of_mul_le_mul_right (a := D ^ ns.sum.toNat) ?_ DN
    rw [← l1, ← l2]
    exact Int.mul_le_mul_of_nonneg_right m1 (by omega)
  · have e2 : ns.sum ^ ns.sum.toNat * prodI (cop D ns) = (ns.length : Int) ^ ns.sum.toNat * D ^ ns.sum.toNat := by
      refine Int.eq_of_mul_eq_mul_right (a := ee ns) (by omega) ?_
      rw [l1, l2, eq]
    have all := m2 e2
    intro x hx y hy
    have mem : ∀ z ∈ ns, D / z ∈ cop D ns := fun z hz => by
      have := h z hz
      exact List.mem_flatMap.mpr ⟨z, hz, List.mem_replicate.mpr ⟨by omega, rfl⟩⟩
    have q := all _ (mem x hx) _ (mem y hy)
    have dx : x * (D / x) = D := Int.mul_ediv_cancel' (by rw [← hD]; exact dvd_prodI hx)
    have dy : y * (D / y) = D := Int.mul_ediv_cancel' (by rw [← hD]; exact dvd_prodI hy)
    have p0 := h4 _ (mem y hy)
    rw [q] at dx
    exact Int.eq_of_mul_eq_mul_right (a := D / y) (by omega) (by omega)
theorem ent_eq {ns : List Int} (h : ∀ n ∈ ns, 0 < n) (c : Int) (hc : ∀ n ∈ ns, n = c) (hne : ns ≠ []) : ns.sum ^ ns.sum.toNat = (ns.length : Int) ^ ns.sum.toNat * ee ns := by
  have c0 : 0 < c := by
    cases ns with
    | nil => exact absurd rfl hne
    | cons x r => rw [← hc x List.mem_cons_self]; exact h x List.mem_cons_self
  have es : ns.sum = ns.length * c ∧ ee ns = c ^ (ns.length * c.toNat) := by
    clear hne
    induction ns with
    | nil => exact ⟨by simp, by show (1 : Int) = c ^ (0 * c.toNat); simp⟩
    | cons x r ih =>
      obtain ⟨i1, i2⟩ := ih (fun y hy => h y (List.mem_cons_of_mem _ hy)) (fun y hy => hc y (List.mem_cons_of_mem _ hy))
      have hx := hc x List.mem_cons_self
      refine ⟨?_, ?_⟩
      · rw [List.sum_cons, i1, hx, List.length_cons, Int.natCast_add, Int.add_mul]; simp; omega
      · rw [ee_cons, i2, hx, ← Int.pow_add, List.length_cons, Nat.add_mul, Nat.one_mul, Nat.add_comm]
  have et : ns.sum.toNat = ns.length * c.toNat := by
    rw [es.1]
    have : c = (c.toNat : Int) := by omega
    rw [this, ← Int.natCast_mul, Int.toNat_natCast, Int.toNat_natCast]
  rw [es.2, et, ← Int.mul_pow, ← es.1]
/-- products of n ^ n lie below -/
theorem ee_le {c : Int} (hc : 0 < c) : ∀ {l : List Int}, (∀ n ∈ l, 0 < n ∧ n ≤ c) → ee l ≤ c ^ l.sum.toNat
  | [], _ => by show (1 : Int) ≤ c ^ 0; simp
  | x :: r, h => by
    obtain ⟨x0, xc⟩ := h x List.mem_cons_self
    have ih := ee_le hc (l := r) fun y hy => h y (List.mem_cons_of_mem _ hy)
    rw [ee_cons, sum_toNat fun y hy => (h y hy).1, Int.pow_add]
    have p1 : x ^ x.toNat ≤ c ^ x.toNat := ipl (by omega) xc _
    have p2 := ee_pos (ns := r) fun y hy => (h y (List.mem_cons_of_mem _ hy)).1
    have p3 := ipp (x.toNat) hc
    exact Int.mul_le_mul p1 ih (by omega) (by omega)
theorem ee_self {l : List Int} (h : ∀ n ∈ l, 0 < n) (hne : l ≠ []) : ee l ≤ l.sum ^ l.sum.toNat := by
  refine ee_le (sumI_pos hne h) fun n hn => ⟨h n hn, ?_⟩
  have : ∀ l' : List Int, (∀ n ∈ l', 0 < n) → n ∈ l' → n ≤ l'.sum := by
    intro l' h' hn'
    induction l' with
    | nil => cases hn'
    | cons y r ih =>
      have hr : ∀ n ∈ r, 0 < n := fun z hz => h' z (List.mem_cons_of_mem _ hz)
      have := sum0 hr
      have := h' y List.mem_cons_self
      rw [List.sum_cons]
      rcases List.mem_cons.mp hn' with e | e
      · omega
      · have := ih hr e; omega
  exact this l h hn
theorem ee_strict {x y : Int} {r : List Int} (h : ∀ n ∈ x :: y :: r, 0 < n) : ee (x :: y :: r) < (x :: y :: r).sum ^ (x :: y :: r).sum.toNat := by
  have x0 := h x List.mem_cons_self
  have hr : ∀ n ∈ y :: r, 0 < n := fun z hz => h z (List.mem_cons_of_mem _ hz)
  have s0 := sumI_pos (xs := y :: r) (by simp) hr
  have S0 : 0 < (x :: y :: r).sum := sumI_pos (by simp) h
  have e1 : (x :: y :: r).sum = x + (y :: r).sum := List.sum_cons
  have l1 := ee_self hr (by simp)
  rw [ee_cons, sum_toNat h, Int.pow_add]
  have p1 : x ^ x.toNat < (x :: y :: r).sum ^ x.toNat := by
    have g : ∀ j : Nat, x ^ (j + 1) < (x :: y :: r).sum ^ (j + 1) := by
      intro j
      induction j with
      | zero => simp only [Nat.zero_add, Int.pow_succ, Int.pow_zero, Int.one_mul]; omega
      | succ i ih =>
        rw [Int.pow_succ, Int.pow_succ _ (i + 1)]
        have q1 := ipp (i + 1) x0
        have q2 := ipp (i + 1) S0
        exact Int.lt_of_lt_of_le (Int.mul_lt_mul_of_pos_right ih x0) (Int.mul_le_mul_of_nonneg_left (by omega) (by omega))
    have := g (x.toNat - 1)
    rwa [show x.toNat - 1 + 1 = x.toNat by omega] at this
  have p2 : ee (y :: r) ≤ (x :: y :: r).sum ^ (y :: r).sum.toNat := Int.le_trans l1 (ipl (by omega) (by omega) _)
  have p3 := ee_pos hr
  have p4 := ipp ((y :: r).sum.toNat) S0
  have p5 := ipp (x.toNat) x0
  exact Int.lt_of_lt_of_le (Int.mul_lt_mul_of_pos_right p1 p3) (Int.mul_le_mul_of_nonneg_left p2 (by have := ipp (x.toNat) S0; omega))
/-- what is put together -/
theorem ee_parts : ∀ {ps : List (List Int)}, (∀ p ∈ ps, p ≠ [] ∧ ∀ n ∈ p, 0 < n) → ee ps.flatten ≤ ee (ps.map fun p => p.sum)
  | [], _ => Int.le_refl _
  | p :: r, h => by
    obtain ⟨hn, hp⟩ := h p List.mem_cons_self
    have ih := ee_parts (ps := r) fun y hy => h y (List.mem_cons_of_mem _ hy)
    rw [List.flatten_cons, ee_append, List.map_cons, ee_cons]
    have p1 := ee_self hp hn
    have p2 : 0 < ee r.flatten := ee_pos fun n hn' => by
      obtain ⟨l, hl, hnl⟩ := List.mem_flatten.mp hn'
      exact (h l (List.mem_cons_of_mem _ hl)).2 n hnl
    have p3 := sumI_pos hn hp
    have p4 := ipp (p.sum.toNat) p3
    exact Int.mul_le_mul p1 ih (by omega) (by omega)
theorem ee_perm {a b : List Int} (h : a.Perm b) : ee a = ee b := by
  induction h with
  | nil => rfl
  | cons x _ ih => rw [ee_cons, ee_cons, ih]
  | swap x y l => rw [ee_cons, ee_cons, ee_cons, ee_cons]; exact Int.mul_left_comm ..
  | trans _ _ i1 i2 => rw [i1, i2]
end Am

namespace Am
/-! how much the exponents of a number cost -/
theorem sum_vp (n : Nat) : ∀ (ps : List Nat), ps.Nodup → (∀ p ∈ ps, Pr p) → ∀ n, 0 < n → 2 ^ (ps.map fun p => vp p n).sum ≤ n
  | [], _, _, n, h => by show 1 ≤ n; omega
  | p :: r, nd, pr, n, hn => by
    have hp := pr p List.mem_cons_self
    have nd2 := List.nodup_cons.mp nd
    obtain ⟨m, hm⟩ := vp_dvd hp.two n hn
    have pp : 0 < p ^ vp p n := Nat.pow_pos hp.pos
    have m0 : 0 < m := by
      apply Nat.pos_of_ne_zero
      rintro rfl
      rw [Nat.mul_zero] at hm; omega
    have ih := sum_vp m r nd2.2 (fun q hq => pr q (List.mem_cons_of_mem _ hq)) m m0
    have e : (r.map fun q => vp q n) = r.map fun q => vp q m := by
      apply List.map_congr_left
      intro q hq
      have hq' := pr q (List.mem_cons_of_mem _ hq)
      have ne : q ≠ p := fun z => nd2.1 (z ▸ hq)
      have h1 : vp q (p ^ vp p n * m) = vp q (p ^ vp p n) + vp q m := vp_mul hq' _ _ pp m0
      rw [← hm, vp_pow hq' hp.pos, vp_other hq' hp ne, Nat.mul_zero, Nat.zero_add] at h1
      exact h1
    rw [List.map_cons, List.sum_cons, e, Nat.pow_add]
    have h2 : 2 ^ vp p n ≤ p ^ vp p n := Nat.pow_le_pow_left hp.two _
    calc 2 ^ vp p n * 2 ^ (r.map fun q => vp q m).sum ≤ p ^ vp p n * m := Nat.mul_le_mul h2 ih
      _ = n := hm.symm
theorem sum_vp_log {n : Nat} (hn : 0 < n) {ps : List Nat} (nd : ps.Nodup) (pr : ∀ p ∈ ps, Pr p) : (ps.map fun p => vp p n).sum ≤ n.log2 := by
  have h := sum_vp n ps nd pr n hn
  exact (Nat.le_log2 (by omega)).mpr h
/-- what a sum of logarithms costs at most -/
def wgt (M : List (Int × Int)) : Nat := (M.map fun q => q.1.natAbs * q.2.toNat.log2).sum
theorem sum_lg {ps : List Nat} (nd : ps.Nodup) (pr : ∀ p ∈ ps, Pr p) : ∀ {M : List (Int × Int)}, (∀ q ∈ M, 0 < q.2) → (ps.map fun p : Nat => (lg M (p : Int)).natAbs).sum ≤ wgt M
  | [], _ => by
    have : ∀ l : List Nat, (l.map fun p : Nat => (lg [] (p : Int)).natAbs).sum = 0 := by
      intro l
      induction l with
      | nil => rfl
      | cons x r ih => rw [List.map_cons, List.sum_cons, ih, lg_nil]; rfl
    rw [this]; exact Nat.zero_le _
  | q :: r, h => by
    have ih := sum_lg nd pr (M := r) fun z hz => h z (List.mem_cons_of_mem _ hz)
    have q0 := h q List.mem_cons_self
    have hl := sum_vp_log (n := q.2.toNat) (by omega) nd pr
    have key : ∀ l : List Nat, (∀ p ∈ l, Pr p) → (l.map fun p : Nat => (lg (q :: r) (p : Int)).natAbs).sum ≤ q.1.natAbs * (l.map fun p => vp p q.2.toNat).sum + (l.map fun p : Nat => (lg r (p : Int)).natAbs).sum := by
      intro l hp
      induction l with
      | nil => exact Nat.zero_le _
      | cons p t ih2 =>
        have i2 := ih2 fun z hz => hp z (List.mem_cons_of_mem _ hz)
        have hpp := hp p List.mem_cons_self
        have e : lg (q :: r) (p : Int) = q.1 * vi p q.2 + lg r p := by
          rw [lg_pr _ hpp, lg_pr _ hpp, List.map_cons, List.sum_cons]
        have a1 : (lg (q :: r) (p : Int)).natAbs ≤ q.1.natAbs * vp p q.2.toNat + (lg r (p : Int)).natAbs := by
          rw [e]
          have := Int.natAbs_add_le (q.1 * vi p q.2) (lg r p)
          have e2 : (q.1 * vi p q.2).natAbs = q.1.natAbs * vp p q.2.toNat := by
            unfold vi; rw [Int.natAbs_mul, Int.natAbs_natCast, Int.toNat_natCast]
          omega
        rw [List.map_cons, List.sum_cons, List.map_cons, List.sum_cons, List.map_cons, List.sum_cons, Nat.mul_add]
        omega
    have k := key ps pr
    have : q.1.natAbs * (ps.map fun p => vp p q.2.toNat).sum ≤ q.1.natAbs * q.2.toNat.log2 := Nat.mul_le_mul_left _ hl
    have e : wgt (q :: r) = q.1.natAbs * q.2.toNat.log2 + wgt r := by unfold wgt; rw [List.map_cons, List.sum_cons]
    omega
theorem lg_key {M : List (Int × Int)} {p : Int} {m : Int} (h : lg M p ≠ 0) (hM : ∀ q ∈ M, 0 < q.2 ∧ q.2 ≤ m) : 2 ≤ p ∧ p ≤ m := by
  by_cases hp : ∃ n : Nat, p = n ∧ Pr n
  · obtain ⟨n, rfl, pr⟩ := hp
    refine ⟨by have := pr.two; omega, ?_⟩
    rw [lg_pr M pr] at h
    by_cases z : ∃ q ∈ M, vi n q.2 ≠ 0
    · obtain ⟨q, hq, hv⟩ := z
      obtain ⟨q0, qm⟩ := hM q hq
      unfold vi at hv
      have h1 : vp n q.2.toNat ≠ 0 := by
        intro y; apply hv; rw [Int.toNat_natCast, y]; rfl
      have := vp_pos_le (by omega) h1
      omega
    · exfalso; apply h
      have : ∀ M' : List (Int × Int), (∀ q ∈ M', q ∈ M) → (M'.map fun q => q.1 * vi n q.2).sum = 0 := by
        intro M'
        induction M' with
        | nil => intro _; rfl
        | cons x r ih =>
          intro hs
          have hx : vi n x.2 = 0 := by
            by_cases y : vi n x.2 = 0
            · exact y
            · exact absurd ⟨x, hs x List.mem_cons_self, y⟩ z
          rw [List.map_cons, List.sum_cons, hx, Int.mul_zero, ih fun y hy => hs y (List.mem_cons_of_mem _ hy)]; rfl
      exact this M fun _ h => h
  · exact absurd (lg_no M hp) h
end Am

/-! rules of our own over the hand layer -/
namespace Ly
open PySem PySem.Spec PyProof.Rows L2

section guarded
variable {P : Program} {w : World} {K : PySem.W.Frag} {mg : Str → Option Value} {base : Heap}
/-- what a def promises where no text of a container is being made around it -/
structure FnG (P : Program) (w : World) (K : PySem.W.Frag) (mg : Str → Option Value) (base : Heap)
    (CX : CXT) (k : Nat) (f : Addr) (fd : FuncData) (ps : List Str) (sp : Sp) : Prop where
  arity : ∀ vs H Q E, sp vs H Q E → vs.length = ps.length
  go : ∀ (A : Around) (out : List Env) (s : Shared) (H : Hp) (ar : Args) (us : List Value)
    (vs : List V) (Q : VK) (E : XK), A.guards = some [] → Room k A → Env0 P w K mg base A out s H →
    BindsTo s fd ar (ps.zip us) → Vals vs us → sp vs H Q E →
    codeAny (model P w) A (.call (.ref f) ar) (CR CX out P w H s Q E) s

theorem FnG.of {CX : CXT} {k : Nat} {f : Addr} {fd : FuncData} {ps : List Str} {sp : Sp}
    (F : FnOk P w K mg base CX k f fd ps sp) : FnG P w K mg base CX k f fd ps sp :=
  ⟨F.len, fun A o s H ar us vs Q E _ => F.run A o s H ar us vs Q E⟩

theorem fnG_of {CX : CXT} {k : Nat} {x qual : Str} {pr : Arguments} {body : List Stmt} {sc : Scope}
    {dvs : List V} {kws : List (Str × V)} {f : Addr} {fd : FuncData} {N ps : List Str} {sp : Sp}
    (F : FunD K x qual pr body sc dvs kws f fd) (S : FnScope N ps sc)
    (ar : ∀ vs H Q E, sp vs H Q E → vs.length = ps.length)
    (hb : ∀ (cdv : Value) (A : Around) (out : List Env) (s : Shared) (H : Hp) (vs : List V) (Q : VK) (E : XK),
      A.guards = some [] → Room k (A.deeper (envOfC qual sc s.heap.objs.size f cdv)) → sp vs H Q E →
      ∃ t, PSs (cxOf CX P w K mg base N qual sc f cdv A out s H E) body t ∧
        t { nx := fun _ H' => Q .non H', rt := Q } (start N vs) H) :
    FnG P w K mg base CX (k + 1) f fd ps sp := by
  obtain ⟨oc, od, dV, kV, doc, pm, an, cdv, ct, osl, rfl, lk, hcd, _, _⟩ := F.ex
  refine ⟨ar, ?_⟩
  intro A out s H args us vs Q E hgd hr e0 hbd rv hsp
  have KX : K.In s.heap := e0.mod.kin.keeps (fun b o e => (e0.bs b o e).1)
  have lim : s.heap.NoLimit := e0.mod.nolimit.keeps (fun b o e => (e0.bs b o e).1)
  have vis : ∀ y ∈ ps.zip us, sc.names.lookup y.1 = some .local ∨
      (sc.names.lookup y.1 = some .cell ∧
        ((cellsFrom (s.heap.objs.size + 1) sc.names []).lookup y.1).isSome = true) := by
    rintro ⟨n, v⟩ hy
    cases S.par n (List.of_mem_zip hy).1 with
    | inl q => exact Or.inl q
    | inr q => exact Or.inr ⟨q, PySem.W.cellsFrom_some _ _ _ (Or.inl q)⟩
  apply codeAny_call_function hr.depth (KX _ _ lk) rfl S.co S.gen rfl (PySem.W.codeRec_of KX hcd)
  apply hbd
  apply wpAny_newFunctionEnv_cells S.kind vis
  rintro env rfl s1 x
  refine ⟨lim.keeps x.toInCall.keep, codeAny_func ?_⟩
  obtain ⟨t, ht, hq⟩ := hb cdv A out s H vs Q E hgd (hr.deeper _) hsp
  have I := inv_start (CX := CX) (E := E) (qual := qual) (f := f) (cd := cdv) (N := N) S hr.hd e0 (ar _ _ _ _ hsp) rv x
  apply wpAny_mono (ht.run [] s1 (start N vs) H _ I hq)
  · intro fl s' hs
    cases fl with
    | ret u => obtain ⟨v, σ', H', J, rv', q⟩ := hs; exact ⟨v, H', J.os, J.bare, J.base, J.hok, rv', q⟩
    | next => obtain ⟨σ', H', J, q⟩ := hs; exact ⟨.non, H', J.os, J.bare, J.base, J.hok, rfl, q⟩
    | brk => obtain ⟨_, _, _, q⟩ := hs; exact q.elim
    | cont => obtain ⟨_, _, _, q⟩ := hs; exact q.elim
  · intro e s' hs; exact hs
end guarded

section calls
variable {X : Cx} {CX : CXT} {k : Nat} {f : Addr} {fd : FuncData} {ps ks : List Str} {sp : Sp}
  {dvs : List V} {ds : List Value} {E : XK} {x : Str} {p pos : Pos} {e : Expr} {es : List Expr} {t tk : TA} {kws : List Keyword}
/-- a guarded callee runs -/
theorem run_G {pins : List (Addr × Obj)} {σ : L2.St} {H : Hp} {s : Shared} {Q : VK} {us : List Value} {vs : List V}
    (F : FnG X.prog X.w X.K X.mg X.base CX k f fd ps sp) (hgd : X.A.guards = some []) (hr : Room k X.A)
    (hb : Binds X.K fd ps ds) (hd : Vals dvs ds) (hx : Passes CX X E)
    (I : Inv X pins σ H s) (r : Vals vs us) (h : sp (vs ++ dvs) H Q E) :
    wpAny (model X.prog X.w) X.A (call (.ref f) us) (EP X pins σ Q) X.xe s := by
  have r2 : Vals (vs ++ dvs) (us ++ ds) := r.append hd
  have hl : (us ++ ds).length = ps.length := r2.length ▸ F.arity _ _ _ _ h
  have run := F.go X.A X.stack s H ⟨us, []⟩ (us ++ ds) (vs ++ dvs) Q E hgd hr I.env0 (hb s us I.kIn hl) r2 h
  apply wpAny_call
  apply codeAny_mono run
  intro r s' hq
  match r, hq with
  | .error e, hq => exact hx pins σ H s e s' I hq
  | .ok (.ret u), hq => exact I.after hq
theorem pe_callG (F : FnG X.prog X.w X.K X.mg X.base CX k f fd ps sp) (hgd : X.A.guards = some []) (hr : Room k X.A)
    (hg : Gl X x) (hm : X.mg x = some (.ref f)) (hk : PySem.W.keepIn X.K (.ref f) = true)
    (hb : Binds X.K fd ps ds) (hd : Vals dvs ds) (hx : Passes CX X E) (ha : PA X (e :: es) t)
    (hdb : (x == ("__debug__" : Str)) = false := by decide)
    (he : starEach (e :: es) X.env = (false, eval e X.env) :: starEach es X.env := by rfl)
    (hpl : (backTo pos (starEach es X.env)).any (·.1) = false := by rfl) :
    PE X (.Call (.Name x p) (e :: es) [] pos) (tCall sp dvs E t) := by
  constructor
  intro pins s σ H Q I h
  apply wpAny_Call_Name_kw
  refine ld_glob I hg hm ?_ hdb
  refine PySem.W.callWith_K (h₀ := X.base) I.ok.mod.kin hk ?_ he hpl
  exact thn (ha.run pos pins s σ H _ I h) fun us s1 ⟨vs, H1, I1, r, q⟩ => ⟨I1.kIn, run_G F hgd hr hb hd hx I1 r q⟩
/-- f(k = v, ..), nothing by position: the values in the order of the call -/
theorem pe_callK0 {g : List Value → List Value → List Value} {gV : List V → List V → List V}
    (F : FnOk X.prog X.w X.K X.mg X.base CX k f fd ps sp) (hr : Room k X.A)
    (hg : Gl X x) (hm : X.mg x = some (.ref f)) (hk : PySem.W.keepIn X.K (.ref f) = true)
    (hb : KBinds X.K fd ps ks g gV) (hx : Passes CX X E) (hkw : PK X kws tk)
    (hall : (backToKw pos (keywordEach kws X.env)).all (·.1.isSome) = true := by rfl)
    (hks : (backToKw pos (keywordEach kws X.env)).filterMap (·.1) = ks := by rfl)
    (hdb : (x == ("__debug__" : Str)) = false := by decide)
    (hpl : ((backTo pos (starEach [] X.env)).any (·.1) || (backToKw pos (keywordEach kws X.env)).any (·.1.isNone)) = false := by rfl) :
    PE X (.Call (.Name x p) [] kws pos) (fun σ H Q => tk σ H fun zs H2 => sp (gV [] zs) H2 Q E) := by
  constructor
  intro pins s σ H Q I h
  apply wpAny_Call_Name_kw
  refine ld_glob I hg hm ?_ hdb
  refine PySem.W.callWith_KW0 (h₀ := X.base) I.ok.mod.kin hk hall ?_ hpl
  refine thn (hkw.run pos pins s σ H _ I h) fun ws s2 ⟨zs, H2, I2, rz, q2⟩ => ⟨I2.kIn, ?_⟩
  rw [hks]
  exact run_fnk (us := []) (vs := []) F hr hb hx I2 .nil rz q2
end calls

/-! ### repr of data -/
section
variable {X : Cx}
def rRepr (K : PySem.W.Frag) : List V → Hp → VK → Prop := fun vs H Q => ∃ a d, vs = [.ref a] ∧ Dp K H (.ref a) d ∧
  d.showable = true ∧ d.hasDict = false ∧ d.depth ≤ 60 ∧ d.shown.length ≤ sizeLine ∧ Q (.str d.shown) H
theorem cr_repr (hgd : X.A.guards = some []) (hu : X.A.units + 64 < cLine) : CallR X (.builtin "repr") (rRepr X.K) := by
  intro pins s σ H vs us Q I r h
  obtain ⟨a, d, rfl, hd, h1, h2, h3, h4, q⟩ := h
  cases r with
  | cons r1 r2 =>
    cases r2
    obtain rfl := (show _ = Value.ref a from r1)
    obtain ⟨as, rd⟩ := Dp.reads I d _ _ hd rfl
    refine repr_of_reads' (h₀ := s.heap) rd h1 (fun q => absurd q (by rw [h2]; decide)) hgd (by omega) (fun b o e => e) (fun h' u tk kp => ?_) h4
    exact ⟨.str d.shown, H, I.kept kp, ⟨_, rfl⟩, q⟩
end
end Ly
namespace Ly
open PySem PySem.Spec PyProof.Rows L2
section
variable {X : Cx}
/-! ### sum, min, max of a tuple of ints; isqrt, lcm -/
def rSumT (K : PySem.W.Frag) : List V → Hp → VK → Prop := fun vs H Q => ∃ (a : Addr) (ns : List Int), vs = [V.ref a] ∧ SqT K H a (ns.map V.int) ∧ Q (.int ns.sum) H
theorem sum_tup {prog : Program} {w : World} {A : Around} {E : Value → Shared → Prop} {s : Shared} {l : Addr} {its : List Value} {ns : List Int} {Q : Value → Shared → Prop}
    (hh : A.handled = none) (hl : s.heap.IsTuple l its.toArray) (hi : IntsAre its ns)
    (h : ∀ h' tk t', (∀ b o, s.heap.get? b = some o → h'.get? b = some o) → Q (.int ns.sum t') { s with heap := h', toks := tk }) :
    wpAny (model prog w) A (call (.builtin "sum") [.ref l]) Q E s := by
  obtain ⟨xs, e⟩ := hi.allInts.items
  have hn : numsOf (intItems xs).toList = ns := by rw [← e]; exact hi.numsOf
  rw [nums_intItems] at hn
  rw [e] at hl
  have hlt : l < s.heap.objs.size := by obtain ⟨_, e1, _⟩ := hl; exact Heap.lt_size e1
  refine call_sum_walkG (wpAny_pyIter_tuple hl ?_)
  refine ⟨_, _, _, _, _, _, numAt xs, rfl, Walks.tuple (A := A.in1) hh _ l (Nat.ne_of_lt hlt) (intItems xs),
    ⟨⟨_, Heap.get?_push_size _ rfl, rfl, rfl⟩, hl.push _⟩, ?_, (fun _ _ => intItems_at), ?_⟩
  · intro b hb
    show b < (s.heap.push _).objs.size
    rw [Heap.size_push]
    simp only [List.mem_cons, List.not_mem_nil, or_false] at hb
    rcases hb with rfl | rfl
    · exact Nat.lt_succ_self _
    · exact Nat.lt_succ_of_lt hlt
  · intro h' tk t' hk
    have z := h h' tk t' fun b o eb => hk b o (by
      simp only [List.mem_cons, List.not_mem_nil, or_false]
      exact Nat.ne_of_lt (Heap.lt_size eb)) (Heap.get?_push_of_some _ eb)
    have sz : (intItems xs).size = xs.size := by simp [intItems]
    rw [sz, preSum_eq, List.take_of_length_le (by simp), hn]
    exact z
theorem cr_sumT (hc : X.calm = true) : CallR X (.builtin "sum") (rSumT X.K) := by
  intro pins s σ H vs us Q I r h
  obtain ⟨a, ns, rfl, hs, q⟩ := h
  obtain ⟨its, rv, hl, _⟩ := I.tuple hs
  rw [Vals.ref1 r]
  exact sum_tup (I.ok.hd hc) hl rv.ints fun h' tk t' hk => ⟨.int _, H, I.kept hk, ⟨_, rfl⟩, q⟩

def rMinT (K : PySem.W.Frag) : List V → Hp → VK → Prop := fun vs H Q => ∃ (a : Addr) (n : Int) (ns : List Int), vs = [V.ref a] ∧ SqT K H a ((n :: ns).map V.int) ∧ Q (.int (ns.foldl min n)) H
def rMaxT (K : PySem.W.Frag) : List V → Hp → VK → Prop := fun vs H Q => ∃ (a : Addr) (n : Int) (ns : List Int), vs = [V.ref a] ∧ SqT K H a ((n :: ns).map V.int) ∧ Q (.int (ns.foldl max n)) H
theorem readsAll_ints : ∀ {h : Heap} {its : List Value} {ns : List Int}, IntsAre its ns → ∃ as, ReadsAll h its (ns.map PyData.int) as
  | _, _, _, .nil => ⟨_, .nil⟩
  | h, _, _, .cons n t r => by
    obtain ⟨as, q⟩ := readsAll_ints (h := h) r
    exact ⟨_, .cons (.int n t) q⟩
theorem alike_ints (ns : List Int) : PySem.W.AlikeAll (ns.map PyData.int) := by
  constructor
  · intro x hx y hy
    obtain ⟨i, _, rfl⟩ := List.mem_map.mp hx
    obtain ⟨j, _, rfl⟩ := List.mem_map.mp hy
    simp only [PySem.W.alike]
  · intro x hx
    obtain ⟨i, _, rfl⟩ := List.mem_map.mp hx
    intro e; cases e
theorem depth_ints : ∀ ns : List Int, PyData.depthAll (ns.map PyData.int) ≤ 1
  | [] => by simp [PyData.depthAll]
  | n :: r => by
    have := depth_ints r
    simp only [List.map_cons, PyData.depthAll, PyData.depth]
    omega
theorem cr_minT (hc : X.calm = true) (hu : X.A.units + 64 < cLine) : CallR X (.builtin "min") (rMinT X.K) := by
  intro pins s σ H vs us Q I r h
  obtain ⟨a, n, ns, rfl, hs, q⟩ := h
  obtain ⟨its, rv, hl, _⟩ := I.tuple hs
  rw [Vals.ref1 r]
  obtain ⟨as, rd⟩ := readsAll_ints (h := s.heap) rv.ints
  refine PySem.W.min_tuple_data (x := .int n) (xs := ns.map .int) (I.ok.hd hc) hl (by simpa using rd) (alike_ints (n :: ns)) (by have := depth_ints (n :: ns); simp only [List.map_cons] at this; omega) ?_
  intro i v h' tk bs hv rd' hk
  rw [PySem.W.minD_ints] at rd'
  cases rd' with
  | int _ t => exact ⟨.int _, H, I.kept hk, ⟨_, rfl⟩, q⟩
theorem cr_maxT (hc : X.calm = true) (hu : X.A.units + 64 < cLine) : CallR X (.builtin "max") (rMaxT X.K) := by
  intro pins s σ H vs us Q I r h
  obtain ⟨a, n, ns, rfl, hs, q⟩ := h
  obtain ⟨its, rv, hl, _⟩ := I.tuple hs
  rw [Vals.ref1 r]
  obtain ⟨as, rd⟩ := readsAll_ints (h := s.heap) rv.ints
  refine PySem.W.max_tuple_data (x := .int n) (xs := ns.map .int) (I.ok.hd hc) hl (by simpa using rd) (alike_ints (n :: ns)) (by have := depth_ints (n :: ns); simp only [List.map_cons] at this; omega) ?_
  intro i v h' tk bs hv rd' hk
  rw [PySem.W.maxD_ints] at rd'
  cases rd' with
  | int _ t => exact ⟨.int _, H, I.kept hk, ⟨_, rfl⟩, q⟩
theorem cr_isqrt : CallR X (.builtin "math.isqrt") (fun vs H Q => ∃ a : Int, vs = [.int a] ∧ 0 ≤ a ∧ a < 2 ^ 64 ∧ Q (.int ((PySem.Float64.isqrt a.toNat : Nat) : Int)) H) := by
  intro pins s σ H vs us Q I r h
  obtain ⟨a, rfl, h0, h1, q⟩ := h
  cases r with
  | cons r1 r2 =>
    cases r2
    obtain ⟨t, rfl⟩ := r1
    exact PySem.W.mg_isqrt h0 h1 ⟨.int _, H, I.tok _, ⟨_, rfl⟩, q⟩
theorem cr_lcm : CallR X (.builtin "math.lcm") (fun vs H Q => ∃ a b : Int, vs = [.int a, .int b] ∧ a.natAbs < 2 ^ 64 ∧ b.natAbs < 2 ^ 64 ∧ Q (.int ((a.natAbs.lcm b.natAbs : Nat) : Int)) H) := by
  intro pins s σ H vs us Q I r h
  obtain ⟨a, b, rfl, h0, h1, q⟩ := h
  obtain ⟨t, u, rfl⟩ := Vals.int2 r
  exact PySem.W.mc_lcm h0 h1 fun _ => ⟨.int _, H, I.tok _, ⟨_, rfl⟩, q⟩
end
end Ly

namespace Ly
open PySem PySem.Spec PyProof.Rows L2
/-! the end of a law whose own def is a guarded one -/
section
variable {P : Program} {w : World} {K : PySem.W.Frag} {mg mb : Str → Option Value} {k : Nat} {fa a : Addr} {fd : FuncData} {x : Str} {sp : Sp} {s₁ : Shared} {vs : List Value} {ns : List Int}
/-- what is wanted of the law's call -/
def LawR (s₁ : Shared) (r : Result) (s' : Shared) : Prop :=
  r = .ok (.ret (.bool true)) ∧ OldK s₁.heap s'.heap ∧ s'.os = s₁.os ∧ AllBare s'.gens
theorem lawG_from (H : Hp) (KX : K.In s₁.heap) (hns : s₁.heap.Ns mainGlobals mg) (hb : s₁.heap.Ns builtinsNs mb)
    (hbb : ∀ x : Str, x ≠ "__name__" → mb x = bootBuiltins x) (hlim : s₁.heap.NoLimit) (hg : s₁.gens = #[])
    (ha : s₁.heap.get? a = some { cls := .type "list", data := .seq vs.toArray }) (hr : Room k callerA)
    (F : ∀ base : Heap, K.In base → base.Ns mainGlobals mg → FnG P w K mg base CX0 k fa fd [x] sp)
    (hbind : ∀ (s : Shared) (u : Value), BindsTo s fd ⟨[u], []⟩ [(x, u)])
    (hO : Only H) (hok : HOk P w H s₁.heap) (hA : ∀ b, H b ≠ none → b = a) (hK : H a ≠ none → K.lookup a = none)
    (hsp : sp [.ref a] H (fun v _ => v = .bl true) fun _ _ _ => False) :
    codeAny (model P w) callerA (.call (.ref fa) ⟨[.ref a], []⟩) (LawR s₁) s₁ := by
  -- what stands at an address that is not tracked stands in the ground
  have only : ∀ b o, s₁.heap.get? b = some o → (∀ xs n, b = a → o.data ≠ Data.seq xs n) → H b = none := by
    intro b o e d
    cases q : H b with
    | none => rfl
    | some u =>
      exfalso
      have e' := hA b (by rw [q]; exact Option.some_ne_none u)
      have ha' := ha
      rw [← e', e] at ha'
      exact d _ _ e' (by rw [Option.some.inj ha'])
  have nsG : ∀ {b : Addr} {m : Str → Option Value}, s₁.heap.Ns b m → (hidT s₁.heap H).Ns b m := by
    rintro b m ⟨o, es, ep, e, d, r⟩
    refine ⟨o, es, ep, hidT_get e (only b o e fun xs n _ z => ?_), d, r⟩
    rw [d] at z
    cases z
  have kG : K.In (hidT s₁.heap H) := by
    intro b o e
    refine hidT_get (KX b o e) ?_
    cases q : H b with
    | none => rfl
    | some u =>
      exfalso
      have e' := hA b (by rw [q]; exact Option.some_ne_none u)
      subst e'
      have z := hK (by rw [q]; exact Option.some_ne_none u)
      rw [z] at e
      cases e
  obtain ⟨mc, l1, l2⟩ := hlim
  have M : Mod K mg (hidT s₁.heap H) := ⟨kG, nsG hns, ⟨mb, nsG hb, hbb⟩, ⟨mc, nsG l1, l2⟩⟩
  have E0' : Env0 P w K mg (hidT s₁.heap H) callerA [] s₁ H :=
    ⟨rfl, M, fun b o e => of_hidT e, Nat.le_of_eq (hidT_size _ _), trivial, (fun b hb => by cases hb), hok, .of_eq hg⟩
  have run := (F _ kG (nsG hns)).go callerA [] s₁ H ⟨[.ref a], []⟩ [.ref a] [.ref a] _ _ rfl hr E0' (hbind s₁ (.ref a)) (.cons rfl .nil) hsp
  apply codeAny_mono run
  intro r s' h
  match r, h with
  | .error e, h => exact False.elim h
  | .ok (.ret u), ⟨v, H', os, bare, un, hok', r', q⟩ =>
    have q' : v = V.bl true := q
    subst q'
    have r2 : u = Value.bool true := r'
    subst r2
    refine ⟨rfl, OldK.of_keep ?_, os, bare⟩
    intro b o e
    cases q : H b with
    | none => exact un.keep b o e q (fun z => by cases z) (fun z => by cases z)
    | some u =>
      obtain z | ⟨ob, xs, z⟩ := hO b
      · rw [z] at q; cases q
      · obtain ⟨e1, _⟩ := hok b _ z
        obtain ⟨e2, _⟩ := hok' b _ (un.frzs b ob _ z)
        rw [e1] at e
        rw [e2, e]
theorem law_callG (KX : K.In s₁.heap) (hns : s₁.heap.Ns mainGlobals mg) (hb : s₁.heap.Ns builtinsNs mb)
    (hbb : ∀ x : Str, x ≠ "__name__" → mb x = bootBuiltins x) (hlim : s₁.heap.NoLimit) (hg : s₁.gens = #[])
    (ha : s₁.heap.get? a = some { cls := .type "list", data := .seq vs.toArray }) (hi : IntsAre vs ns) (hl : ns.length ≤ sizeLine) (hr : Room k callerA)
    (F : ∀ base : Heap, K.In base → base.Ns mainGlobals mg → FnG P w K mg base CX0 k fa fd [x] sp)
    (hbind : ∀ (s : Shared) (u : Value), BindsTo s fd ⟨[u], []⟩ [(x, u)])
    (hsp : ∀ H : Hp, Only H → SqL K H a (ns.map V.int) → sp [.ref a] H (fun v _ => v = .bl true) fun _ _ _ => False) :
    codeAny (model P w) callerA (.call (.ref fa) ⟨[.ref a], []⟩) (LawR s₁) s₁ := by
  have rv := vals_ints hi
  have len : vs.toArray.size ≤ sizeLine := by rw [List.size_toArray, hi.length]; exact hl
  by_cases hk : K.lookup a = none
  · have eq_a : ∀ b : Addr, ¬ b = a → (fun b : Addr => if b = a then some (HO.frz { cls := .type "list", data := .seq vs.toArray } (.lst (ns.map V.int))) else none) b = none := fun b hb => if_neg hb
    have at_a : (fun b : Addr => if b = a then some (HO.frz { cls := .type "list", data := .seq vs.toArray } (.lst (ns.map V.int))) else none) a = some (HO.frz { cls := .type "list", data := .seq vs.toArray } (.lst (ns.map V.int))) := if_pos rfl
    have O : Only (fun b : Addr => if b = a then some (HO.frz { cls := .type "list", data := .seq vs.toArray } (.lst (ns.map V.int))) else none) := by
      intro b
      by_cases hb : b = a
      · exact .inr ⟨_, _, if_pos hb⟩
      · exact .inl (if_neg hb)
    refine lawG_from _ KX hns hb hbb hlim hg ha hr F hbind O ?_ ?_ (fun _ => hk) (hsp _ O (.inl (.inr ⟨_, at_a⟩)))
    · intro b u z
      by_cases hb : b = a
      · subst hb
        rw [at_a] at z
        cases z
        exact ⟨ha, by rw [List.length_map]; exact hl, vs, _, rv, ha⟩
      · rw [eq_a b hb] at z
        cases z
    · intro b z
      by_cases hb : b = a
      · exact hb
      · exact absurd (eq_a b hb) z
  · obtain ⟨o, ho⟩ := Option.ne_none_iff_exists'.mp hk
    have e := KX a o ho
    rw [ha] at e
    cases e
    have O : Only (fun _ => none) := fun _ => .inl rfl
    refine lawG_from (fun _ => none) KX hns hb hbb hlim hg ha hr F hbind O ?_ (fun b z => absurd rfl z) (fun z => absurd rfl z) (hsp _ O (.inr ⟨_, vs.toArray, _, ho, rfl, rfl, rfl, len, by simpa using rv⟩))
    intro b u z
    cases z
end
/-- the end of a law over a head by facts -/
theorem walk_ofG {l : PySem.W.OpenLaw} {n k : Nat} {q : Program} {loose : List Str} {XP : (Str → Option Value) → Heap → Prop} {YP : World → Heap → Prop} {d : DefRec} {x : Str}
    (hn : l.most = some n) (hn2 : n ≤ sizeLine) (hdf : d.params.defaults = []) (hr : Room k callerA)
    (F : ∀ (w : World) (mg : Str → Option Value) (fa : Addr) (h : Heap), YP w h → h.Ns mainGlobals mg → mg d.name = some (.ref fa) →
      ∃ (K : PySem.W.Frag) (fd : FuncData) (sp : Sp), K.In h ∧ (∀ (s : Shared) (u : Value), BindsTo s fd ⟨[u], []⟩ [(x, u)]) ∧
        (∀ (H : Hp) (a : Addr) (ns : List Int), ns.length ≤ n → Only H → SqL K H a (ns.map V.int) → sp [.ref a] H (fun v _ => v = .bl true) fun _ _ _ => False) ∧
        ∀ base : Heap, K.In base → base.Ns mainGlobals mg → FnG l.prog w K mg base CX0 k fa fd [x] sp) :
    PySem.W.WalkO q loose XP YP l.row.toRowW d [] (fun f vs => PySem.call f vs) := by
  apply Att.attach_call hn hdf
  intro w s₀ s₁ mg mb fa o pm cd doc a vs ns G Y ho hd hcd hmg hobj hints hlen hg
  obtain ⟨K, fd, sp, KX, hb, hsp, hF⟩ := F w mg fa _ Y G.T.g hmg
  exact law_callG KX G.T.g G.T.b G.T.builtins G.T.nolimit hg hobj hints (Nat.le_trans hlen hn2) hr hF hb fun H hO hS => hsp H a ns hlen hO hS
end Ly

namespace Ly
open PySem PySem.Spec PyProof.Rows L2
def dOf (x : Str) (st : Stmt) : He.DefD := ⟨(x, none), x, x, defArgs st, defBody st, defScope st, [], []⟩
abbrev FnP (K : PySem.W.Frag) (x : Str) (st : Stmt) (f : Addr) (fd : FuncData) : Prop :=
  FunD K x x (defArgs st) (defBody st) (defScope st) [] [] f fd
theorem saysD_of {fa : List He.Fa} {fn : List He.DefD} {ex : PySem.W.Frag → Bool} {w : World} {h : Heap} {K : PySem.W.Frag}
    (c : He.SaysX fa fn [] [] ex w h K) : He.SaysD fa fn K := c.t.d
/-- a def of the module -/
def Def_ (K : PySem.W.Frag) (mg : Str → Option Value) (x : Str) (st : Stmt) (ps : List Str) : Prop :=
  ∃ f fd, FnP K x st f fd ∧ Binds K fd ps [] ∧ (∀ (s : Shared) (us : List Value), us.length = ps.length → BindsTo s fd ⟨us, []⟩ (ps.zip us)) ∧ mg x = some (.ref f)
/-- .. that keeps a promise -/
structure Ca (P : Program) (w : World) (K : PySem.W.Frag) (mg : Str → Option Value) (base : Heap) (k : Nat) (x : Str) (st : Stmt) (ps : List Str) (sp : Sp) : Prop where
  ex : ∃ f fd, FnOk P w K mg base CX0 k f fd ps sp ∧ FnP K x st f fd ∧ Binds K fd ps [] ∧ mg x = some (.ref f)
structure CaG (P : Program) (w : World) (K : PySem.W.Frag) (mg : Str → Option Value) (base : Heap) (k : Nat) (x : Str) (st : Stmt) (ps : List Str) (sp : Sp) : Prop where
  ex : ∃ f fd, FnG P w K mg base CX0 k f fd ps sp ∧ FnP K x st f fd ∧ Binds K fd ps [] ∧ (∀ (s : Shared) (us : List Value), us.length = ps.length → BindsTo s fd ⟨us, []⟩ (ps.zip us)) ∧ mg x = some (.ref f)
section
variable {P : Program} {w : World} {K : PySem.W.Frag} {mg : Str → Option Value} {base : Heap}
theorem Ca.of {x : Str} {st : Stmt} {N ps : List Str} {k : Nat} {sp : Sp} (D : Def_ K mg x st ps) (S : FnScope N ps (defScope st))
    (len : ∀ vs H Q E, sp vs H Q E → vs.length = ps.length)
    (hb : ∀ (f : Addr) (cdv : Value) (A : Around) (out : List Env) (s : Shared) (H : Hp) (vs : List V) (Q : VK) (E : XK),
      Room k (A.deeper (envOfC x (defScope st) s.heap.objs.size f cdv)) → sp vs H Q E →
      ∃ t, PSs (cxOf CX0 P w K mg base N x (defScope st) f cdv A out s H E).nox (defBody st) t ∧
        t { nx := fun _ H' => Q .non H', rt := Q } (start N vs) H) :
    Ca P w K mg base (k + 1) x st ps sp := by
  obtain ⟨f, fd, F, B, _, g⟩ := D
  refine ⟨f, fd, F.ok S len ?_, F, B, g⟩
  intro cdv A out s H vs Q E hr h
  obtain ⟨t, h1, h2⟩ := hb f cdv A out s H vs Q E hr h
  exact ⟨t, h1.nox, h2⟩
theorem CaG.of {x : Str} {st : Stmt} {N ps : List Str} {k : Nat} {sp : Sp} (D : Def_ K mg x st ps) (S : FnScope N ps (defScope st))
    (len : ∀ vs H Q E, sp vs H Q E → vs.length = ps.length)
    (hb : ∀ (f : Addr) (cdv : Value) (A : Around) (out : List Env) (s : Shared) (H : Hp) (vs : List V) (Q : VK) (E : XK),
      A.guards = some [] → Room k (A.deeper (envOfC x (defScope st) s.heap.objs.size f cdv)) → sp vs H Q E →
      ∃ t, PSs (cxOf CX0 P w K mg base N x (defScope st) f cdv A out s H E).nox (defBody st) t ∧
        t { nx := fun _ H' => Q .non H', rt := Q } (start N vs) H) :
    CaG P w K mg base (k + 1) x st ps sp := by
  obtain ⟨f, fd, F, B, B2, g⟩ := D
  refine ⟨f, fd, fnG_of F S len ?_, F, B, B2, g⟩
  intro cdv A out s H vs Q E hgd hr h
  obtain ⟨t, h1, h2⟩ := hb f cdv A out s H vs Q E hgd hr h
  exact ⟨t, h1.nox, h2⟩
end
section
variable {X : Cx} {k j : Nat} {st : Stmt} {ps : List Str} {sp : Sp} {x : Str} {p pos : Pos} {e : Expr} {es : List Expr} {t tk : TA} {kws : List Keyword}
theorem pe_ca (c : Ca X.prog X.w X.K X.mg X.base k x st ps sp) (hr : Room j X.A) (ha : PA X (e :: es) t) (hg : Gl X x := by rfl) (hj : k ≤ j := by decide)
    (hdb : (x == ("__debug__" : Str)) = false := by decide)
    (he : starEach (e :: es) X.env = (false, eval e X.env) :: starEach es X.env := by rfl)
    (hpl : (backTo pos (starEach es X.env)).any (·.1) = false := by rfl) :
    PE X (.Call (.Name x p) (e :: es) [] pos) (tCall sp [] E0 t) := by
  obtain ⟨f, fd, F, D, B, g⟩ := c.ex
  exact pe_call F (hr.mono hj) hg g D.kp B .nil pass0 ha hdb he hpl
theorem pe_caG (c : CaG X.prog X.w X.K X.mg X.base k x st ps sp) (hgd : X.A.guards = some []) (hr : Room j X.A) (ha : PA X (e :: es) t) (hg : Gl X x := by rfl) (hj : k ≤ j := by decide)
    (hdb : (x == ("__debug__" : Str)) = false := by decide)
    (he : starEach (e :: es) X.env = (false, eval e X.env) :: starEach es X.env := by rfl)
    (hpl : (backTo pos (starEach es X.env)).any (·.1) = false := by rfl) :
    PE X (.Call (.Name x p) (e :: es) [] pos) (tCall sp [] E0 t) := by
  obtain ⟨f, fd, F, D, B, _, g⟩ := c.ex
  exact pe_callG F hgd (hr.mono hj) hg g D.kp B .nil pass0 ha hdb he hpl
end
/-! heaps -/
/-- all but the lists and dicts is kept -/
def Kp (H H' : Hp) : Prop := ∀ b o, H b = some o → (∀ xs, o ≠ .lst xs) → (∀ kvs, o ≠ .dK kvs) → H' b = some o
theorem Same.kp {H H' : Hp} (s : Same H H') : Kp H H' := fun b o e _ _ => s b o e
theorem Kp.refl (H : Hp) : Kp H H := fun _ _ e _ _ => e
theorem Kp.trans {H H1 H2 : Hp} (a : Kp H H1) (b : Kp H1 H2) : Kp H H2 := fun c o e h1 h2 => b c o (a c o e h1 h2) h1 h2
theorem SqT.same {K : PySem.W.Frag} {H H' : Hp} {a : Addr} {xs : List V} (s : Same H H') (h : SqT K H a xs) : SqT K H' a xs := by
  rcases h with (h | ⟨o, h⟩) | h
  · exact .inl (.inl (s _ _ h))
  · exact .inl (.inr ⟨o, s _ _ h⟩)
  · exact .inr h
theorem SqT.kp {K : PySem.W.Frag} {H H' : Hp} {a : Addr} {xs : List V} (s : Kp H H') (h : SqT K H a xs) : SqT K H' a xs := by
  rcases h with (h | ⟨o, h⟩) | h
  · exact .inl (.inl (s _ _ h (fun _ q => nomatch q) (fun _ q => nomatch q)))
  · exact .inl (.inr ⟨o, s _ _ h (fun _ q => nomatch q) (fun _ q => nomatch q)⟩)
  · exact .inr h
theorem same_new {H : Hp} {p : Addr} {o : HO} (h : H p = none) : Same H (upd H p o) := fun b x e => by
  rw [upd_ne (ne_of_none e h)]
  exact e
theorem sqT_new {K : PySem.W.Frag} {H : Hp} {p : Addr} {xs : List V} : SqT K (upd H p (.tup xs)) p xs := .inl (.inl upd_same)
theorem sqL_new {K : PySem.W.Frag} {H : Hp} {p : Addr} {xs : List V} : SqL K (upd H p (.lst xs)) p xs := .inl (.inl upd_same)
/-- nothing that was tracked ahead of a new place is lost when that place is written -/
theorem same_write {H0 H : Hp} {p : Addr} {o : HO} (h0 : H0 p = none) (s : Same H0 H) : Same H0 (upd H p o) := fun b x e => by
  rw [upd_ne (ne_of_none e h0)]
  exact s b x e
end Ly
namespace Ly
open PySem PySem.Spec PyProof.Rows L2
section
variable {X : Cx} {x : Str} {pos : Pos}
theorem pe_globI {i : Int} (h : ∃ t, X.mg x = some (.int i t)) (hg : Gl X x := by rfl) (hd : (x == ("__debug__" : Str)) = false := by decide) : PE X (.Name x pos) (tC (.int i)) := by
  obtain ⟨t, h⟩ := h
  exact pe_glob hg h ⟨t, rfl⟩ hd
theorem tyx_int {K : PySem.W.Frag} {H : Hp} {i : Int} : TyX K H (.int i) (.type "int") := .base (.int _)
theorem tyx_tup {K : PySem.W.Frag} {H : Hp} {a : Addr} {xs : List V} (h : SqT K H a xs) : TyX K H (.ref a) (.type "tuple") := by
  rcases h with (h | ⟨o, h⟩) | ⟨o, its, n, h, c, _⟩
  · exact .base (.tup h)
  · exact .fTuple h
  · exact .kTuple h c
end
end Ly

namespace Ly
open PySem PySem.Spec PyProof.Rows L2 Am
/-! dicts of ints by ints -/
/-- the dict's entries -/
def kd (L : List (Int × Int)) : List (Key × V) := L.map fun q => (Sum.inl q.1, V.int q.2)
/-- d[k] = v -/
def ip (L : List (Int × Int)) (k v : Int) : List (Int × Int) :=
  if (L.any fun q => decide (q.1 = k)) = true then L.map (fun q => if q.1 = k then (q.1, v) else q) else L ++ [(k, v)]
theorem kd_val (k : Int) : ∀ L : List (Int × Int), valV (kd L) (Sum.inl k) = (L.lookup k).map V.int
  | [] => rfl
  | q :: r => by
    rw [List.lookup_cons]
    by_cases h : q.1 = k
    · have h1 : (k == q.1) = true := by simp [h]
      rw [h1]
      exact valV_pos (p := ((Sum.inl q.1 : Key), V.int q.2)) (by rw [h])
    · have h1 : (k == q.1) = false := by simpa using fun z : k = q.1 => h z.symm
      rw [h1]
      exact (valV_neg (p := ((Sum.inl q.1 : Key), V.int q.2)) (fun z => h (Sum.inl.inj z))).trans (kd_val k r)
theorem kd_put (L : List (Int × Int)) (k v : Int) : putK (kd L) (Sum.inl k) (V.int v) = kd (ip L k v) := by
  have e : ((kd L).any fun kv => decide (kv.1 = Sum.inl k)) = L.any fun q => decide (q.1 = k) := by
    unfold kd
    rw [List.any_map]
    congr 1
    funext q
    show decide ((Sum.inl q.1 : Key) = Sum.inl k) = decide (q.1 = k)
    by_cases h : q.1 = k
    · rw [h]; simp
    · rw [decide_eq_false h, decide_eq_false (fun z => h (Sum.inl.inj z))]
  unfold putK ip
  rw [e]
  split
  · unfold kd
    rw [List.map_map, List.map_map]
    congr 1
    funext q
    show (if (Sum.inl q.1 : Key) = Sum.inl k then ((Sum.inl q.1 : Key), V.int v) else (Sum.inl q.1, V.int q.2)) = _
    show _ = ((Sum.inl (if q.1 = k then (q.1, v) else q).1 : Key), V.int (if q.1 = k then (q.1, v) else q).2)
    by_cases h : q.1 = k
    · rw [if_pos h, if_pos (by rw [h])]
    · rw [if_neg h, if_neg (fun z => h (Sum.inl.inj z))]
  · unfold kd
    rw [List.map_append]
    rfl
theorem lookup_append (k : Int) : ∀ (L M : List (Int × Int)), (L ++ M).lookup k = (L.lookup k).or (M.lookup k)
  | [], M => by simp
  | q :: r, M => by
    rw [List.cons_append, List.lookup_cons, List.lookup_cons]
    cases h : (k == q.1) with
    | true => rfl
    | false => exact lookup_append k r M
theorem lookup_none_iff (k : Int) : ∀ (L : List (Int × Int)), L.lookup k = none ↔ ∀ q ∈ L, q.1 ≠ k
  | [] => by simp
  | q :: r => by
    rw [List.lookup_cons]
    cases h : (k == q.1) with
    | true =>
      have : k = q.1 := by simpa using h
      simp [this]
    | false =>
      have h2 : q.1 ≠ k := by
        have : ¬ k = q.1 := by simpa using h
        exact fun z => this z.symm
      simp only [List.mem_cons, forall_eq_or_imp]
      exact ⟨fun z => ⟨h2, (lookup_none_iff k r).mp z⟩, fun z => (lookup_none_iff k r).mpr z.2⟩
theorem lookup_mapset (k v j : Int) : ∀ (L : List (Int × Int)), (L.map fun q => if q.1 = k then (q.1, v) else q).lookup j = if j = k then (L.lookup k).map (fun _ => v) else L.lookup j
  | [] => by simp
  | q :: r => by
    rw [List.map_cons, List.lookup_cons, List.lookup_cons, List.lookup_cons]
    by_cases h : q.1 = k
    · rw [if_pos h]
      by_cases hj : j = k
      · have e1 : (j == q.1) = true := by simp [h, hj]
        have e2 : (k == q.1) = true := by simp [h]
        simp only [hj, e2]
        simp
      · have e1 : (j == q.1) = false := by simpa using fun z : j = q.1 => hj (z.trans h)
        simp only [e1]
        rw [lookup_mapset k v j r, if_neg hj, if_neg hj]
    · rw [if_neg h]
      by_cases hj : j = k
      · subst hj
        have e2 : (j == q.1) = false := by simpa using fun z : j = q.1 => h z.symm
        simp only [e2]
        rw [lookup_mapset j v j r]; simp
      · rw [if_neg hj]
        cases e : (j == q.1) with
        | true => rfl
        | false => exact (lookup_mapset k v j r).trans (if_neg hj)
theorem ip_look (L : List (Int × Int)) (k v j : Int) : (ip L k v).lookup j = if j = k then some v else L.lookup j := by
  unfold ip
  split
  · rename_i h
    rw [lookup_mapset]
    by_cases hj : j = k
    · rw [if_pos hj, if_pos hj]
      cases e : L.lookup k with
      | some u => rfl
      | none =>
        obtain ⟨q, hq, z⟩ := List.any_eq_true.mp h
        exact absurd (of_decide_eq_true z) ((lookup_none_iff k L).mp e q hq)
    · rw [if_neg hj, if_neg hj]
  · rename_i h
    have hn : L.lookup k = none := (lookup_none_iff k L).mpr fun q hq z => h (List.any_eq_true.mpr ⟨q, hq, decide_eq_true z⟩)
    rw [lookup_append]
    by_cases hj : j = k
    · subst hj
      rw [hn, if_pos rfl]
      simp [List.lookup_cons]
    · rw [if_neg hj]
      have e1 : (j == k) = false := by simpa using hj
      simp [List.lookup_cons, e1]
theorem ip_nodup {L : List (Int × Int)} (k v : Int) (h : (L.map (·.1)).Nodup) : ((ip L k v).map (·.1)).Nodup := by
  unfold ip
  split
  · rw [List.map_map]
    have e : ((fun q : Int × Int => q.1) ∘ fun q => if q.1 = k then (q.1, v) else q) = fun q => q.1 := by
      funext q
      show (if q.1 = k then (q.1, v) else q).1 = q.1
      split <;> rfl
    rw [e]; exact h
  · rename_i hk
    rw [List.map_append, List.nodup_append]
    refine ⟨h, by simp, ?_⟩
    intro a ha b hb
    obtain ⟨q, hq, rfl⟩ := List.mem_map.mp ha
    have : b = k := by simpa using hb
    subst this
    exact fun z => hk (List.any_eq_true.mpr ⟨q, hq, decide_eq_true z⟩)
theorem ip_len (L : List (Int × Int)) (k v : Int) : (ip L k v).length ≤ L.length + 1 := by
  unfold ip; split
  · rw [List.length_map]; omega
  · rw [List.length_append]; simp
theorem ip_new {L : List (Int × Int)} {k v : Int} (h : L.lookup k = none) : ip L k v = L ++ [(k, v)] := by
  unfold ip
  rw [if_neg]
  intro z
  obtain ⟨q, hq, z⟩ := List.any_eq_true.mp z
  exact (lookup_none_iff k L).mp h q hq (of_decide_eq_true z)
theorem ip_keys {L : List (Int × Int)} {k v j : Int} (h : j ∈ (ip L k v).map (·.1)) : j = k ∨ j ∈ L.map (·.1) := by
  unfold ip at h
  split at h
  · rw [List.map_map] at h
    obtain ⟨q, hq, e⟩ := List.mem_map.mp h
    right
    refine List.mem_map.mpr ⟨q, hq, ?_⟩
    rw [← e]
    show q.1 = (if q.1 = k then (q.1, v) else q).1
    split <;> rfl
  · rw [List.map_append] at h
    rcases List.mem_append.mp h with h | h
    · exact .inr h
    · exact .inl (by simpa using h)
theorem ig_ip (L : List (Int × Int)) (k v j : Int) : ig (ip L k v) j = if j = k then v else ig L j := by
  unfold ig
  rw [ip_look]
  split <;> rfl
theorem kd_getD (L : List (Int × Int)) (k : Int) : (valV (kd L) (Sum.inl k)).getD (V.int 0) = V.int (ig L k) := by
  rw [kd_val]; unfold ig
  cases L.lookup k <;> rfl
/-! walks over a dict that is locked -/
section
variable {d : Addr} {o : Obj} {kvs : List (Key × V)}
theorem for_vals {g : TG} {tb : TS} {D : Ends} {σ : L2.St} {H : Hp} (Pv : Nat → L2.St → Hp → Prop) (h0 : Pv 0 σ H)
    (hl : ∀ i σ H, Pv i σ H → H d = some (.frz o (.dK kvs)))
    (hs : ∀ i k x σ H, kvs[i]? = some (k, x) → Pv i σ H → g x σ H fun σ2 H2 => tb { D with nx := Pv (i + 1), ct := Pv (i + 1), bk := D.nx } σ2 H2)
    (hd : ∀ σ H, Pv kvs.length σ H → D.nx σ H) :
    ∃ W : Nat → Nat → L2.St → Hp → Prop, (∃ m, W 0 m σ H) ∧ ∀ i m σ H, W i m σ H →
      ((Itd d o kvs).stop i H ∧ D.nx σ H) ∨ ((Itd d o kvs).go i H ∧ ∃ N : L2.St → Hp → Prop, (∀ σ' H', N σ' H' → ∃ m', m' < m ∧ W (i + 1) m' σ' H') ∧
        ∀ x H', (Itd d o kvs).yld i H x H' → g x σ H' fun σ2 H2 => tb { D with nx := N, ct := N, bk := D.nx } σ2 H2) := by
  refine ⟨fun i m σ H => m = kvs.length - i ∧ i ≤ kvs.length ∧ Pv i σ H, ⟨_, rfl, Nat.zero_le _, h0⟩, ?_⟩
  rintro i m σ H ⟨rfl, hi, p⟩
  by_cases lt : i < kvs.length
  · refine Or.inr ⟨⟨hl i σ H p, lt⟩, Pv (i + 1), fun σ' H' p' => ⟨kvs.length - (i + 1), by omega, rfl, lt, p'⟩, ?_⟩
    rintro x H' ⟨rfl, k, e⟩
    exact hs i k x σ _ e p
  · have e : i = kvs.length := by omega
    subst e
    exact Or.inl ⟨⟨hl _ σ H p, Nat.le_refl _⟩, hd σ H p⟩
theorem for_items {g : TG} {tb : TS} {D : Ends} {σ : L2.St} {H : Hp} (Pv : Nat → L2.St → Hp → Prop) (h0 : Pv 0 σ H)
    (hl : ∀ i σ H, Pv i σ H → H d = some (.frz o (.dK kvs)))
    (hs : ∀ i k x T σ H, kvs[i]? = some (k, x) → Pv i σ H → H T = none → g (.ref T) σ (upd H T (.tup [kV k, x])) fun σ2 H2 => tb { D with nx := Pv (i + 1), ct := Pv (i + 1), bk := D.nx } σ2 H2)
    (hd : ∀ σ H, Pv kvs.length σ H → D.nx σ H) :
    ∃ W : Nat → Nat → L2.St → Hp → Prop, (∃ m, W 0 m σ H) ∧ ∀ i m σ H, W i m σ H →
      ((Iti d o kvs).stop i H ∧ D.nx σ H) ∨ ((Iti d o kvs).go i H ∧ ∃ N : L2.St → Hp → Prop, (∀ σ' H', N σ' H' → ∃ m', m' < m ∧ W (i + 1) m' σ' H') ∧
        ∀ x H', (Iti d o kvs).yld i H x H' → g x σ H' fun σ2 H2 => tb { D with nx := N, ct := N, bk := D.nx } σ2 H2) := by
  refine ⟨fun i m σ H => m = kvs.length - i ∧ i ≤ kvs.length ∧ Pv i σ H, ⟨_, rfl, Nat.zero_le _, h0⟩, ?_⟩
  rintro i m σ H ⟨rfl, hi, p⟩
  by_cases lt : i < kvs.length
  · refine Or.inr ⟨⟨hl i σ H p, lt⟩, Pv (i + 1), fun σ' H' p' => ⟨kvs.length - (i + 1), by omega, rfl, lt, p'⟩, ?_⟩
    rintro x H' ⟨T, k, v, e, rfl, nT, rfl⟩
    exact hs i k v T σ H e p nT
  · have e : i = kvs.length := by omega
    subst e
    exact Or.inl ⟨⟨hl _ σ H p, Nat.le_refl _⟩, hd σ H p⟩
theorem lc_items {g : TG} {tt : TT} {te : TE} {vs : List Nat} {σ : L2.St} {H1 : Hp} {D : Addr} {Qd : Hp → Prop} (Pv : Nat → Hp → Prop) (h0 : Pv 0 (upd H1 D (.lst [])))
    (hl : ∀ i H, Pv i H → H d = some (.frz o (.dK kvs)))
    (hs : ∀ i k x T H, kvs[i]? = some (k, x) → Pv i H → H T = none → g (.ref T) (wipe σ vs) (upd H T (.tup [kV k, x])) fun σ2 H2 => wipe σ2 vs = wipe σ vs ∧ tt σ2 H2 fun b H3 =>
      if b = true then te σ2 H3 fun y H4 => ∃ acc, H4 D = some (.lst acc) ∧ acc.length < sizeLine ∧ Pv (i + 1) (upd H4 D (.lst (acc ++ [y]))) else Pv (i + 1) H3) (hd : ∀ H, Pv kvs.length H → Qd H) :
    ∃ W : Nat → Nat → Hp → Prop, (∃ m, W 0 m (upd H1 D (.lst []))) ∧ ∀ i m H, W i m H →
      ((Iti d o kvs).stop i H ∧ Qd H) ∨ ((Iti d o kvs).go i H ∧ ∃ Nx : Hp → Prop, (∀ H', Nx H' → ∃ m', m' < m ∧ W (i + 1) m' H') ∧ ∀ x H', (Iti d o kvs).yld i H x H' → g x (wipe σ vs) H' fun σ2 H2 => wipe σ2 vs = wipe σ vs ∧ tt σ2 H2 fun b H3 =>
        if b = true then te σ2 H3 fun y H4 => ∃ acc, H4 D = some (.lst acc) ∧ acc.length < sizeLine ∧ Nx (upd H4 D (.lst (acc ++ [y]))) else Nx H3) := by
  refine ⟨fun i m H => m = kvs.length - i ∧ i ≤ kvs.length ∧ Pv i H, ⟨_, rfl, Nat.zero_le _, h0⟩, ?_⟩
  rintro i m H ⟨rfl, hi, p⟩
  by_cases lt : i < kvs.length
  · refine Or.inr ⟨⟨hl i H p, lt⟩, Pv (i + 1), fun H' p' => ⟨kvs.length - (i + 1), by omega, rfl, lt, p'⟩, ?_⟩
    rintro x H' ⟨T, k, v, e, rfl, nT, rfl⟩
    exact hs i k v T H e p nT
  · have e : i = kvs.length := by omega
    subst e
    exact Or.inl ⟨⟨hl _ H p, Nat.le_refl _⟩, hd H p⟩
theorem lc_keys {g : TG} {tt : TT} {te : TE} {vs : List Nat} {σ : L2.St} {H1 : Hp} {D : Addr} {Qd : Hp → Prop} (Pv : Nat → Hp → Prop) (h0 : Pv 0 (upd H1 D (.lst [])))
    (hl : ∀ i H, Pv i H → H d = some (.frz o (.dK kvs)))
    (hs : ∀ i k x H, kvs[i]? = some (k, x) → Pv i H → g (kV k) (wipe σ vs) H fun σ2 H2 => wipe σ2 vs = wipe σ vs ∧ tt σ2 H2 fun b H3 =>
      if b = true then te σ2 H3 fun y H4 => ∃ acc, H4 D = some (.lst acc) ∧ acc.length < sizeLine ∧ Pv (i + 1) (upd H4 D (.lst (acc ++ [y]))) else Pv (i + 1) H3) (hd : ∀ H, Pv kvs.length H → Qd H) :
    ∃ W : Nat → Nat → Hp → Prop, (∃ m, W 0 m (upd H1 D (.lst []))) ∧ ∀ i m H, W i m H →
      ((Itk d o kvs).stop i H ∧ Qd H) ∨ ((Itk d o kvs).go i H ∧ ∃ Nx : Hp → Prop, (∀ H', Nx H' → ∃ m', m' < m ∧ W (i + 1) m' H') ∧ ∀ x H', (Itk d o kvs).yld i H x H' → g x (wipe σ vs) H' fun σ2 H2 => wipe σ2 vs = wipe σ vs ∧ tt σ2 H2 fun b H3 =>
        if b = true then te σ2 H3 fun y H4 => ∃ acc, H4 D = some (.lst acc) ∧ acc.length < sizeLine ∧ Nx (upd H4 D (.lst (acc ++ [y]))) else Nx H3) := by
  refine ⟨fun i m H => m = kvs.length - i ∧ i ≤ kvs.length ∧ Pv i H, ⟨_, rfl, Nat.zero_le _, h0⟩, ?_⟩
  rintro i m H ⟨rfl, hi, p⟩
  by_cases lt : i < kvs.length
  · refine Or.inr ⟨⟨hl i H p, lt⟩, Pv (i + 1), fun H' p' => ⟨kvs.length - (i + 1), by omega, rfl, lt, p'⟩, ?_⟩
    rintro x H' ⟨rfl, k, v, e, rfl⟩
    exact hs i k v _ e p
  · have e : i = kvs.length := by omega
    subst e
    exact Or.inl ⟨⟨hl _ H p, Nat.le_refl _⟩, hd H p⟩
end
/-! amounts as they stand -/
/-- the pairs of the parts -/
def PairsAt (K : PySem.W.Frag) (H : Hp) (rs : List Addr) (L : List (Int × Int)) : Prop := Paired (fun r q => SqT K H r [V.int q.1, V.int q.2]) rs L
def AmtAt (K : PySem.W.Frag) (H : Hp) (v : V) (d : Int) (L : List (Int × Int)) : Prop :=
  ∃ a b rs, v = V.ref a ∧ SqT K H a [.int d, .ref b] ∧ SqT K H b (rs.map V.ref) ∧ PairsAt K H rs L
theorem PairsAt.kp {K : PySem.W.Frag} {H H' : Hp} {rs : List Addr} {L : List (Int × Int)} (s : Kp H H') (h : PairsAt K H rs L) : PairsAt K H' rs L := Paired.mapP h fun _ _ q => SqT.kp s q
theorem AmtAt.kp {K : PySem.W.Frag} {H H' : Hp} {v : V} {d : Int} {L : List (Int × Int)} (s : Kp H H') (h : AmtAt K H v d L) : AmtAt K H' v d L := by
  obtain ⟨a, b, rs, e, h1, h2, h3⟩ := h
  exact ⟨a, b, rs, e, SqT.kp s h1, SqT.kp s h2, h3.kp s⟩
theorem AmtAt.same {K : PySem.W.Frag} {H H' : Hp} {v : V} {d : Int} {L : List (Int × Int)} (s : Same H H') (h : AmtAt K H v d L) : AmtAt K H' v d L := h.kp (Ly.Same.kp s)
theorem Paired.at' {α β : Type} {F : α → β → Prop} : ∀ {l₁ : List α} {l₂ : List β} {i : Nat} {x : α}, Paired F l₁ l₂ → l₁[i]? = some x → ∃ y, l₂[i]? = some y ∧ F x y
  | _, _, _, _, .nil, e => by simp at e
  | _, _, 0, _, .cons r _, e => by simp at e; subst e; exact ⟨_, rfl, r⟩
  | _, _, i + 1, x, .cons _ t, e => by
    obtain ⟨u, h1, h2⟩ := Paired.at' (i := i) (x := x) t (by simpa using e)
    exact ⟨u, by simpa using h1, h2⟩
/-- the data of an amount -/
def amtD (d : Int) (L : List (Int × Int)) : PyData := .tuple [.int d, .tuple (L.map fun q => .tuple [.int q.1, .int q.2])]
theorem pairs_dp {K : PySem.W.Frag} {H : Hp} : ∀ {rs : List Addr} {L : List (Int × Int)}, PairsAt K H rs L → DpAll K H (rs.map V.ref) (L.map fun q => .tuple [.int q.1, .int q.2])
  | _, _, .nil => .nil
  | _, _, .cons h t => .cons (.tup h (.cons (.int _) (.cons (.int _) .nil))) (pairs_dp t)
theorem AmtAt.dp {K : PySem.W.Frag} {H : Hp} {v : V} {d : Int} {L : List (Int × Int)} (h : AmtAt K H v d L) : Dp K H v (amtD d L) := by
  obtain ⟨a, b, rs, rfl, h1, h2, h3⟩ := h
  exact .tup h1 (.cons (.int _) (.cons (.tup h2 (pairs_dp h3)) .nil))
end Ly

namespace Ly
open PySem PySem.Spec PyProof.Rows L2
/-! rules whose reading names the written part, said with a name for it (within a comprehension's block) -/
section
variable {X : Cx} {K : PySem.W.Frag}
theorem ix_tupK (h : X.K = K := by rfl) : IxR X (rIxT K) := h ▸ ix_tup
theorem ix_listK (h : X.K = K := by rfl) : IxR X (rIxL K) := h ▸ ix_list
theorem call_len_seqK (h : X.K = K := by rfl) : CallR X (.builtin "len") (fun xs H Q => ∃ p ys, xs = [.ref p] ∧ (SqL K H p ys ∨ SqT K H p ys) ∧ Q (.int ys.length) H) := h ▸ call_len_seq
theorem call_list_ofK (h : X.K = K := by rfl) : CallR X (.type "list") (fun xs H Q => ∃ p ys, xs = [.ref p] ∧ (SqL K H p ys ∨ SqT K H p ys) ∧ ∀ l, H l = none → Q (.ref l) (upd H l (.lst ys))) := h ▸ call_list_of
theorem call_tuple_ofK (h : X.K = K := by rfl) : CallR X (.type "tuple") (fun xs H Q => ∃ p ys, xs = [.ref p] ∧ ((SqL K H p ys ∧ ∀ l, H l = none → Q (.ref l) (upd H l (.tup ys))) ∨ (SqT K H p ys ∧ Q (.ref p) H))) := h ▸ call_tuple_of
theorem call_isiK (h : X.K = K := by rfl) : CallR X (.builtin "isinstance") (rIsi K) := h ▸ call_isi
theorem cr_sumTK (hc : X.calm = true) (h : X.K = K := by rfl) : CallR X (.builtin "sum") (rSumT K) := h ▸ cr_sumT hc
theorem cr_sumK (hc : X.calm = true) (h : X.K = K := by rfl) : CallR X (.builtin "sum") (rSum K) := h ▸ cr_sum hc
theorem cr_allK (hc : X.calm = true) (h : X.K = K := by rfl) : CallR X (.builtin "all") (rAll K) := h ▸ cr_all hc
theorem op_eqDK (hu : X.A.units + 64 < cLine) (h : X.K = K := by rfl) : OpR X (compareOp .Eq) (rEqD K) := h ▸ op_eqD hu
theorem op_neDK (hu : X.A.units + 64 < cLine) (h : X.K = K := by rfl) : OpR X (compareOp .NotEq) (rNeD K) := h ▸ op_neD hu
theorem op_catAK (h : X.K = K := by rfl) : OpR X (binaryOp .Add) (rCatA K) := h ▸ op_catA
theorem op_in_seqK (h : X.K = K := by rfl) : OpR X (compareOp .In) (rIn K false) := h ▸ op_in_seq
theorem op_notIn_seqK (h : X.K = K := by rfl) : OpR X (compareOp .NotIn) (rIn K true) := h ▸ op_notIn_seq
theorem sl_listK (h : X.K = K := by rfl) : SlR X (rSlL K) := h ▸ sl_list
theorem sl_tupAK (h : X.K = K := by rfl) : SlR X (rSlA K) := h ▸ sl_tupA
theorem pi_listK {tg l : Expr} {tl : TE} (hl : PE X l tl) (h : X.K = K := by rfl) : PI X tg l (iList K tl) := h ▸ pi_list hl
theorem pi_tupK {tg l : Expr} {tl : TE} (hl : PE X l tl) (h : X.K = K := by rfl) : PI X tg l (iTup K tl) := h ▸ pi_tup hl
theorem pg_tupK {es : List Expr} {k : Nat} {pos : Pos} {t : TGs} (n : Nat) (hc : X.calm = true) (hp : PGs X es t) (h : X.K = K := by rfl)
    (hn : (assignEach es X.env).length = n := by rfl) (hst : (assignEach es X.env).findIdx? (·.1) = none := by rfl) : PG X (.Tuple es k pos) (gTup K n t) := by
  subst h
  exact pg_tup hc hp hn hst
end

/-! pairs of ints, each in a tuple of its own -/
def TrP (H : Hp) (rs : List Addr) (L : List (Int × Int)) : Prop := Paired (fun r q => H r = some (.tup [V.int q.1, V.int q.2])) rs L
theorem TrP.pairs {K : PySem.W.Frag} {H : Hp} {rs : List Addr} {L : List (Int × Int)} (h : TrP H rs L) : PairsAt K H rs L := Paired.mapP h fun _ _ q => .inl (.inl q)
theorem TrP.same {H H' : Hp} {rs : List Addr} {L : List (Int × Int)} (s : Same H H') (h : TrP H rs L) : TrP H' rs L := Paired.mapP h fun _ _ q => s _ _ q
theorem TrP.kp {H H' : Hp} {rs : List Addr} {L : List (Int × Int)} (s : Kp H H') (h : TrP H rs L) : TrP H' rs L := Paired.mapP h fun _ _ q => s _ _ q (fun _ z => nomatch z) (fun _ z => nomatch z)
theorem paired_snoc {α β : Type} {F : α → β → Prop} {x : α} {y : β} (h : F x y) : ∀ {l : List α} {m : List β}, Paired F l m → Paired F (l ++ [x]) (m ++ [y])
  | _, _, .nil => .cons h .nil
  | _, _, .cons r t => .cons r (paired_snoc h t)
/-- the pair at a place -/
def kOf (H : Hp) : V → Int × Int
  | .ref t => match H t with
    | some (.tup [.int a, .int b]) => (a, b)
    | _ => (0, 0)
  | _ => (0, 0)
def adr : V → Addr
  | .ref t => t
  | _ => 0
theorem kOf_at {H : Hp} {t : Addr} {a b : Int} (h : H t = some (.tup [.int a, .int b])) : kOf H (.ref t) = (a, b) := by
  show (match H t with | some (.tup [.int a, .int b]) => (a, b) | _ => (0, 0)) = _
  rw [h]
theorem TrP.keys {H : Hp} : ∀ {rs : List Addr} {L : List (Int × Int)}, TrP H rs L → (rs.map V.ref).map (kOf H) = L
  | _, _, .nil => rfl
  | _, _, .cons h t => by
    rw [List.map_cons, List.map_cons, TrP.keys t, kOf_at h]
theorem TrP.mem {H : Hp} : ∀ {rs : List Addr} {L : List (Int × Int)}, TrP H rs L → ∀ x ∈ rs.map V.ref, ∃ t, x = V.ref t ∧ H t = some (.tup [.int (kOf H x).1, .int (kOf H x).2])
  | _, _, .nil, x, hx => by cases hx
  | _, _, .cons (a := r) h t, x, hx => by
    rcases List.mem_cons.mp hx with e | hx
    · subst e
      refine ⟨_, rfl, ?_⟩
      rw [kOf_at h]; exact h
    · exact TrP.mem t x hx
theorem trp_of {H : Hp} : ∀ ys : List V, (∀ x ∈ ys, ∃ t, x = V.ref t ∧ H t = some (.tup [.int (kOf H x).1, .int (kOf H x).2])) → ys = (ys.map adr).map V.ref ∧ TrP H (ys.map adr) (ys.map (kOf H))
  | [], _ => ⟨rfl, .nil⟩
  | y :: r, h => by
    obtain ⟨t, e, h1⟩ := h y List.mem_cons_self
    obtain ⟨h2, h3⟩ := trp_of r fun x hx => h x (List.mem_cons_of_mem _ hx)
    subst e
    refine ⟨?_, .cons h1 h3⟩
    show V.ref t :: r = V.ref t :: (r.map adr).map V.ref
    rw [← h2]
theorem sorted_pairs {H : Hp} {rs : List Addr} {L : List (Int × Int)} {ys : List V} (h : TrP H rs L) (nd : (L.map (·.1)).Nodup) (s1 : SrtO.Srtd (ltP (kOf H)) ys) (s2 : SrtO.Stb (ltP (kOf H)) ys (rs.map V.ref)) :
    ∃ rs' L', ys = rs'.map V.ref ∧ TrP H rs' L' ∧ L'.Perm L ∧ L'.Pairwise (fun a b => a.1 < b.1) := by
  have hm := h.mem
  obtain ⟨e1, e2⟩ := trp_of ys fun x hx => hm x (s2.perm.mem_iff.mp hx)
  have pm : (ys.map (kOf H)).Perm L := by
    have := s2.perm.map (kOf H)
    rw [h.keys] at this
    exact this
  refine ⟨_, _, e1, e2, pm, ?_⟩
  have nd2 : ((ys.map (kOf H)).map (·.1)).Nodup := (pm.map (·.1)).nodup_iff.mpr nd
  rw [List.Nodup, List.pairwise_map] at nd2
  have s3 : (ys.map (kOf H)).Pairwise (fun x y => SrtO.lexB y x = false) := List.pairwise_map.mpr s1
  refine (nd2.and s3).imp ?_
  rintro a b ⟨h1, h2⟩
  have := SrtO.lexB_no.mp h2
  omega
end Ly

namespace Ly
open PySem PySem.Spec PyProof.Rows L2
section
variable {X : Cx}
theorem sw_trueD {kx vx : Expr} {gs : List Comprehension} {scope : Scope} {pos py : Pos} {y : Str} {l : Nat} {env : Env}
    (k1 : env.scope.kind = .function) (k2 : env.scope.names.lookup y = some .local)
    (k3 : (py.line == pos.line) = true)
    (k4 : (scope.names.any fun (n, k) => n == y && (k == .local || k == .cell)) = false) :
    swapsWith (.DictComp kx vx gs scope pos) (some (.Name y py)) l env = pure true := by
  have a1 : env.kindOf y = some .local := k2
  have a2 : env.blockKind = .function := by
    unfold Env.blockKind
    rw [k1]
    rfl
  unfold swapsWith
  simp only [a1, a2, k4, Expr.pos, k3]
  rfl
/-- y = {..} in one row, y a local -/
theorem ps_setDc {i : Nat} {y : Str} {py : Pos} {kx vx tg iter : Expr} {ifs : List Expr} {scope : Scope}
    {own : List (Str × Nat)} {pos spos : Pos} {wi : TI} {g : TG} {tt : TT} {tk tv : TE}
    (hc : X.calm = true) (hN : X.N.Nodup) (hy : X.N[i]? = some y)
    (hyl : X.env.scope.names.lookup y = some .local)
    (hsw : swapsWith (.DictComp kx vx [⟨tg, iter, ifs, 0⟩] scope pos) (some (.Name y py)) spos.line X.env = pure true)
    (hi : PI X tg iter wi) (ok : BlkOk X.N X.env.scope scope own)
    (hg : ∀ (s : Shared) (H : Hp) (C : Addr) (cl : List (Str × Addr)) (fp : List Addr),
      PG (X.blk s H scope (compEnvC scope cl C X.env) fp) tg g)
    (ht : ∀ (s : Shared) (H : Hp) (C : Addr) (cl : List (Str × Addr)) (fp : List Addr),
      PTs (X.blk s H scope (compEnvC scope cl C X.env) fp) ifs tt)
    (hk : ∀ (s : Shared) (H : Hp) (C : Addr) (cl : List (Str × Addr)) (fp : List Addr),
      PE (X.blk s H scope (compEnvC scope cl C X.env) fp) kx tk)
    (he : ∀ (s : Shared) (H : Hp) (C : Addr) (cl : List (Str × Addr)) (fp : List Addr),
      PE (X.blk s H scope (compEnvC scope cl C X.env) fp) vx tv)
    (hs : ∀ x, foldedSetIterable iter X.env x = pure x := by intro _; rfl) :
    PS X (.Assign [.Name y py] (.DictComp kx vx [⟨tg, iter, ifs, 0⟩] scope pos) spos)
      (tAsg (tDc wi g tt tk tv (own.map (·.2))) (gName i)) := by
  constructor
  intro pins s σ H D I h
  rw [exec_Assign_Name_used _ _ _ _ hsw]
  refine wpAny_bind (wpAny_standAt (wpAny_bind ?_))
  show wpAny _ X.A (do
    let _ ← comprehension (.DictComp kx vx [⟨tg, iter, ifs, 0⟩] scope pos) scope X.env
      (firstIterPos [⟨tg, iter, ifs, 0⟩] pos) newDict false (eval iter X.env)
      (some (assign (.Name y py) X.env))) _ _ s
  have h : tDc wi g tt tk tv (own.map (·.2)) σ H (fun x H1 => gName i x σ H1 D.nx) := h
  have core := dc_core (Qf := fun _ s' => SP X pins D .next s') (use := some (assign (.Name y py) X.env))
    (pos := pos) (pos' := firstIterPos [⟨tg, iter, ifs, 0⟩] pos) hc hN I hi ok hg ht hk he hs h
  refine wpAny_bind (thn (core fun L C s' m H' I' q hn f => ?_) fun _ s' hq => wpAny_pure (wpAny_pure hq))
  show wpAny _ _ (assign (.Name y py) X.env (.ref L)) _ _ _
  obtain ⟨f0, f1, f2, f3, f4, f5⟩ := f
  refine wpAny_assign_Name (store_ok2 (v := V.ref L) I' hN hy (.inl hyl) rfl ?_ (.inr hyl))
  intro s2 I2 ⟨a, sb, ha⟩
  have neq : C ≠ a := by
    cases ha with
    | inl z => rw [z]; exact f1
    | inr z => exact fun e => f4 y a z e.symm
  refine ⟨m, hn.sameBut sb neq, fun h3 sb3 => ?_⟩
  refine ⟨_, H', I2.turned (t' := s2.toks) ?_ f0 f1 f3 f4 f5, q⟩
  intro b o hb e
  exact (sb3.2 b hb).trans e
end
/-! f(k = v) over a promise by name -/
section
variable {X : Cx} {k j : Nat} {st : Stmt} {ps ks : List Str} {sp : Sp} {x : Str} {p pos : Pos} {tk : TA} {kws : List Keyword}
end
/-! zip of a list and a tuple -/
def ItzM (K : PySem.W.Frag) (a b : Addr) : It where
  go := fun i H => ∃ (xs ys : List V) (x y : V),
    SqL K H a xs ∧ SqT K H b ys ∧ xs[i]? = some x ∧ ys[i]? = some y
  yld := fun i H v H' => ∃ T x y, v = .ref T ∧ H T = none ∧ H' = upd H T (.tup [x, y]) ∧
    (∀ xs, SqL K H a xs → xs[i]? = some x) ∧ ∀ ys, SqT K H b ys → ys[i]? = some y
  stop := fun i H => ∃ xs ys : List V, SqL K H a xs ∧ SqT K H b ys ∧ i ≤ xs.length ∧ i ≤ ys.length ∧ (i = xs.length ∨ i = ys.length)
theorem walk_zipM {K : PySem.W.Frag} {a b : Addr} {xs ys : List V} {n : Nat} (hn : n = min xs.length ys.length) :
    Walk (ItzM K a b) n (fun H => SqL K H a xs ∧ SqT K H b ys) (YPair (fun i => xs[i]?) (fun i => ys[i]?)) := by
  constructor
  · rintro i H hi ⟨h1, h2⟩
    have a1 : i < xs.length := by omega
    have a2 : i < ys.length := by omega
    exact ⟨xs, ys, xs[i], ys[i], h1, h2, by simp [a1], by simp [a2]⟩
  · rintro H ⟨h1, h2⟩
    exact ⟨xs, ys, h1, h2, by omega, by omega, by omega⟩
  · rintro i H v H' _ ⟨h1, h2⟩ ⟨T, x, z, e1, e2, e3, e4, e5⟩
    exact ⟨T, x, z, e1, e2, e3, e4 xs h1, e5 ys h2⟩
end Ly

namespace Ly
open PySem PySem.Spec PyProof.Rows L2
/-! tuple * 0, tuple * 1 -/
theorem tup_mul1 (l : Addr) (items : Array Value) (n : Nat) (dd : Option Addr) (sl : Array (Option Value)) (u : Tok) :
    Meets (Builtin.«tuple.__mul__» ⟨[.ref l, .int 1 u], []⟩) (fun _ R s =>
      s.heap.get? l = some { cls := .type "tuple", dict := dd, data := .seq items n, slots := sl } ∧ R (.ok (.ret (Value.ref l))) s) :=
  .of_wp fun prog w A R s h => by
    obtain ⟨hp, g, d, tk, os⟩ := s
    obtain ⟨hl, h⟩ := h
    have f1 := AutoSeq1.idx_int
    wp_walk using wpAny_loadPart' hl
    exact ⟨_, rfl, h⟩
theorem tup_mul0 (l : Addr) (items : Array Value) (n : Nat) (dd : Option Addr) (sl : Array (Option Value)) (u : Tok)
    (c1 : (items.isEmpty || (0 : Int) == 1) = false) :
    Meets (Builtin.«tuple.__mul__» ⟨[.ref l, .int 0 u], []⟩) (fun _ R s =>
      s.heap.get? l = some { cls := .type "tuple", dict := dd, data := .seq items n, slots := sl } ∧
      R (.ok (.ret (Value.ref s.heap.objs.size))) { s with heap := s.heap.push { cls := Value.type "tuple", data := Data.seq #[] }, toks := s.toks }) :=
  .of_wp fun prog w A R s h => by
    obtain ⟨hp, g, d, tk, os⟩ := s
    obtain ⟨hl, h⟩ := h
    have f1 := AutoSeq1.idx_int
    wp_walk using wpAny_loadPart' hl
    refine wpAny_ite_false (decide_eq_false (by rw [c1]; exact Bool.false_ne_true)) ?_
    wp_walk using wpAny_loadPart' hl
    exact ⟨_, rfl, h⟩
/-- a tuple times 0, 1, 2, .. -/
def rRepA (K : PySem.W.Frag) : R2 := fun x y H Q => ∃ l k xs, x = .ref l ∧ y = .int k ∧ SqT K H l xs ∧ xs ≠ [] ∧ 0 ≤ k ∧ k ≤ 1000 ∧ xs.length ≤ 1000 ∧
  (k = 1 → Q (.ref l) H) ∧ (k ≠ 1 → ∀ p, H p = none → Q (.ref p) (upd H p (.tup (List.replicate k.toNat xs).flatten)))
section
variable {X : Cx}
theorem op_repA : OpR X (binaryOp .Mult) (rRepA X.K) := by
  intro pins s σ H x y v u Q I rx ry h
  obtain ⟨l, k, xs, rfl, rfl, hT, hne, h1, h2, hz, q1, q2⟩ := h
  by_cases k2 : 2 ≤ k
  · exact op_repT pins s σ H _ _ v u Q I rx ry ⟨l, k, xs, rfl, rfl, hT, hne, k2, h2, hz, q2 (by omega)⟩
  cases rx
  obtain ⟨t, rfl⟩ := ry
  obtain ⟨its, r, ⟨⟨cls, dd, data, sl⟩, ho, hc, n, hd⟩, hs⟩ := I.tuple hT
  simp only at hc hd
  subst hc hd
  have ni : its.toArray.isEmpty = false := by
    cases its with
    | nil => exact absurd (List.eq_nil_of_length_eq_zero r.length) hne
    | cons a b => rfl
  by_cases k1 : k = 1
  · subst k1
    refine wpAny_binaryOp_repeat_ref (T := "tuple") (U := "int") (by decide) ⟨_, ho, rfl⟩ (fun s' => typeIs_int s' 1 t) noFill_tuple_mul F.fills_int_mul F.slot_int_rmul repeat_tuple F.slot_int_index.lookup
      (call_meets F.slot_int_rmul (typeIs_int s 1 t) F.entry_int_rmul (F.args_int_rmul_2 _ _) (int_rmul_tuple 1 t l its.toArray n dd sl)
        ⟨ho, rfl, ⟨_, ho, rfl⟩, ?_⟩)
    refine call_meets F.slot_tuple_mul ⟨_, ho, rfl⟩ F.entry_tuple_mul (F.args_tuple_mul_2 _ _) (tup_mul1 l its.toArray n dd sl t) ⟨ho, ?_⟩
    exact ⟨.ref l, H, I, rfl, q1 rfl⟩
  · have k0 : k = 0 := by omega
    subst k0
    have c1 : (its.toArray.isEmpty || (0 : Int) == 1) = false := by rw [ni]; rfl
    refine wpAny_binaryOp_repeat_ref (T := "tuple") (U := "int") (by decide) ⟨_, ho, rfl⟩ (fun s' => typeIs_int s' 0 t) noFill_tuple_mul F.fills_int_mul F.slot_int_rmul repeat_tuple F.slot_int_index.lookup
      (call_meets F.slot_int_rmul (typeIs_int s 0 t) F.entry_int_rmul (F.args_int_rmul_2 _ _) (int_rmul_tuple 0 t l its.toArray n dd sl)
        ⟨ho, rfl, ⟨_, ho, rfl⟩, ?_⟩)
    refine call_meets F.slot_tuple_mul ⟨_, ho, rfl⟩ F.entry_tuple_mul (F.args_tuple_mul_2 _ _) (tup_mul0 l its.toArray n dd sl t c1) ⟨ho, ?_⟩
    have z := q2 (by decide) s.heap.objs.size (I.hok.fresh (Nat.le_refl _))
    refine ⟨.ref s.heap.objs.size, _, I.laid (t' := s.toks) (o := .tup []) (fun b o e => Heap.get?_push_of_some _ e) (Nat.le_refl _) ?_, rfl, z⟩
    exact ⟨by show 0 ≤ sizeLine; omega, [], .nil, IsTup.new s.heap #[]⟩
end
end Ly

namespace Ly
open PySem PySem.Spec PyProof.Rows L2
/-! zip of a list and a tuple: by the library's iterators of any kind -/
theorem sepM {z TI TO i1 i2 a b : Addr} (D : ZipApart z TI TO i1 i2 a b) : ZipSep2 z TI TO i1 i2 [i1, a] [i2, b] where
  TIz := D.TIz
  TOz := D.TOz
  TITO := D.TITO
  TIi1 := D.TIi1
  mem1 := List.mem_cons_self
  zf1 := by simp; exact ⟨D.i1z.symm, D.l1z.symm⟩
  Tf1 := by simp; exact ⟨D.TOi1, D.l1TO.symm⟩
  TIi2 := D.TIi2
  mem2 := List.mem_cons_self
  zf2 := by simp; exact ⟨D.i2z.symm, D.l2z.symm⟩
  Tf2 := by simp; exact ⟨D.TOi2, D.l2TO.symm⟩
  sep1_2 := by simp; exact ⟨D.i12, D.l2i1.symm⟩
  sep2_1 := by simp; exact ⟨D.i12.symm, D.l1i2.symm⟩
/-- how the five cells stand at turn i -/
def StM (z TI TO i1 i2 a b : Addr) (i : Nat) (h : Heap) : Prop :=
  IsZip h z TI TO .none ∧ IsPair h TI (.ref i1) (.ref i2) ∧ (∃ x y, IsPair h TO x y) ∧
    h.IsListIter i1 a i ∧ h.IsTupleIter i2 b i
theorem five {z TI TO i1 i2 c : Addr} (h : c ∈ [z, TI, TO, i1, i2]) : c = z ∨ c = TI ∨ c = TO ∨ c = i1 ∨ c = i2 := by
  simpa using h
theorem turn_zipM {P : Program} {w : World} {K : PySem.W.Frag} {elts : List Expr} {kk : Nat} {tpos : Pos}
    {a b z TI TO i1 i2 : Addr} (D : ZipApart z TI TO i1 i2 a b) :
    Turn P w K (.Tuple elts kk tpos) (ItzM K a b) [z, TI, TO, i1, i2] z (StM z TI TO i1 i2 a b) where
  mem := List.mem_cons_self
  obj := by
    intro i h st c hc
    obtain ⟨hz, hTI, ⟨x, y, hTO⟩, ⟨o1, e1, _, d1⟩, o2, e2, _, d2⟩ := st
    rcases five hc with rfl | rfl | rfl | rfl | rfl
    · exact ⟨_, hz, fun v q => nomatch q⟩
    · exact ⟨_, hTI, fun v q => nomatch q⟩
    · exact ⟨_, hTO, fun v q => nomatch q⟩
    · refine ⟨o1, e1, fun v q => ?_⟩
      rw [d1] at q; cases q
    · refine ⟨o2, e2, fun v q => ?_⟩
      rw [d2] at q; cases q
  keep := by
    intro i h h' st k
    obtain ⟨hz, hTI, ⟨x, y, hTO⟩, h1, h2⟩ := st
    refine ⟨k z (by simp) _ hz, k TI (by simp) _ hTI, ⟨x, y, k TO (by simp) _ hTO⟩, ?_, ?_⟩
    · exact h1.at fun o q => k i1 (by simp) o q
    · exact h2.at fun o q => k i2 (by simp) o q
  item := by
    intro X hP hw hK hc i pins s σ H E I hf st hg
    subst hP hw hK
    obtain ⟨hz, hTI, ⟨x0, y0, hTO⟩, h1, h2⟩ := st
    obtain ⟨xs, ys, x, y, hqx, hqy, hx, hy⟩ := hg
    obtain ⟨us, rv, p, _⟩ := I.list hqx
    obtain ⟨vs, rv2, p2, _⟩ := I.tuple hqy
    obtain ⟨u, hu, ru⟩ := rv.get hx
    obtain ⟨v, hv, rw2⟩ := rv2.get hy
    have zl : z < s.heap.objs.size := Heap.lt_size hz
    have hh := I.ok.hd hc
    have n1 := (List.getElem?_eq_some_iff.mp hu).1
    have n2 := (List.getElem?_eq_some_iff.mp hv).1
    refine wpAny_pyNext_zipD2_item (sepM D) (Draws.list (A := X.A.in1) hh i1 a D.l1i1 us.toArray) (Draws.tuple (A := X.A.in1) hh i2 b D.l2i2 vs.toArray)
      hz hTI hTO ⟨h1, p.isList⟩ ⟨h2, p2⟩ (by simpa using n1) (by simpa using n2) ?_
    intro x1 x2 h' tk y1 y2 z' TO' st1 st2 hT hsz hk
    have e1 : x1 = u := by
      have q : us[i]? = some x1 := by simpa using y1
      rw [hu] at q; exact (Option.some.inj q).symm
    have e2 : x2 = v := by
      have q : vs[i]? = some x2 := by simpa using y2
      rw [hv] at q; exact (Option.some.inj q).symm
    subst e1 e2
    refine ⟨_, rfl, ?_⟩
    refine wpAny_letOwnedTupleGo_zip (s := { s with heap := h', toks := tk }) z' fun h'' z'' sb => ?_
    have hT2 : h''.get? s.heap.objs.size = some { cls := .type "tuple", data := .seq #[x1, x2] } := by
      rw [sb.2 _ (Nat.ne_of_gt zl)]; exact hT
    have new : ObjOk X.prog X.w (upd H s.heap.objs.size (.tup [x, y])) h'' s.heap.objs.size (.tup [x, y]) := by
      refine ⟨by show 2 ≤ sizeLine; decide, [x1, x2], .cons ru (.cons rw2 .nil), ?_⟩
      exact ⟨_, hT2, rfl, _, rfl⟩
    have far : ∀ c o, c ∉ [z, TI, TO, i1, i2] → s.heap.get? c = some o → h''.get? c = some o := by
      intro c o hb q
      rw [sb.2 c (fun q' => hb (by simp [q']))]
      refine hk c o ?_ ?_ ?_ ?_ q
      · exact fun q' => hb (by simp [q'])
      · exact fun q' => hb (by simp [q'])
      · exact fun q' => hb (by simp [q'])
      · exact fun q' => hb (by simp [q'])
    have I1 : Inv X pins σ (upd H s.heap.objs.size (.tup [x, y])) { s with heap := h'', toks := tk } :=
      I.turnedNew (t' := tk) (ch := [z, TI, TO, i1, i2]) far hf (Nat.le_refl _) new
    refine ⟨.ref s.heap.objs.size, _, I1, rfl, ⟨_, x, y, rfl, I.hok.fresh (Nat.le_refl _), rfl, ?_, ?_⟩, ⟨z'', ?_, ⟨x1, x2, ?_⟩, ?_, ?_⟩, ?_⟩
    · intro l hl; rw [I.list_inj hl hqx]; exact hx
    · intro l hl; rw [I.tuple_inj hl hqy]; exact hy
    · rw [IsPair, sb.2 _ D.TIz]; exact hk _ _ D.TIz D.TITO D.TIi1 D.TIi2 hTI
    · exact (sb.2 _ D.TOz).trans TO'
    · exact st1.1.at fun o q => by rw [sb.2 _ D.i1z]; exact q
    · exact st2.1.at fun o q => by rw [sb.2 _ D.i2z]; exact q
    · intro c hcm
      have lt : c < s.heap.objs.size := by
        rcases five hcm with rfl | rfl | rfl | rfl | rfl
        · exact zl
        · exact Heap.lt_size hTI
        · exact Heap.lt_size hTO
        · obtain ⟨_, e, _⟩ := h1; exact Heap.lt_size e
        · obtain ⟨_, e, _⟩ := h2; exact Heap.lt_size e
      rw [upd_ne (Nat.ne_of_lt lt)]
      exact (hf c hcm).1
  done := by
    intro X hP hw hK hc i pins s σ H E I hf st hg
    subst hP hw hK
    obtain ⟨hz, hTI, ⟨x0, y0, hTO⟩, h1, h2⟩ := st
    obtain ⟨xs, ys, hqx, hqy, e1, e2, hend⟩ := hg
    obtain ⟨us, rv, p, _⟩ := I.list hqx
    obtain ⟨vs, rv2, p2, _⟩ := I.tuple hqy
    have hh := I.ok.hd hc
    have l1 := rv.length
    have l2 := rv2.length
    refine wpAny_pyNext_zipD2_end (sepM D) (Draws.list (A := X.A.in1) hh i1 a D.l1i1 us.toArray) (Draws.tuple (A := X.A.in1) hh i2 b D.l2i2 vs.toArray)
      hz hTI hTO ⟨h1, p.isList⟩ ⟨h2, p2⟩ (by simp; omega) (by simp; omega) (by simp; omega) ?_
    intro h' tk hk
    refine ⟨rfl, I.turnedL (t' := tk) (ch := [z, TI, TO, i1, i2]) ?_ hf⟩
    intro c o hb q
    refine hk c o ?_ ?_ ?_ ?_ q
    · exact fun q' => hb (by simp [q'])
    · exact fun q' => hb (by simp [q'])
    · exact fun q' => hb (by simp [q'])
    · exact fun q' => hb (by simp [q'])
  self := fun A i s Q E st h => wpAny_pyIter_zip st.1 h
/-- zip(list, tuple) -/
def iZipM (K : PySem.W.Frag) (ta : TA) : TI := fun σ H R => ta σ H fun vs H1 => ∃ a b xs ys,
  vs = [.ref a, .ref b] ∧ SqL K H1 a xs ∧ SqT K H1 b ys ∧ R (ItzM K a b) H1
theorem pi_zipM {X : Cx} {K : PySem.W.Frag} {e e2 : Expr} {ta : TA} {p pos tpos : Pos} {elts : List Expr} {kk : Nat}
    (hg : Gl X "zip") (hm : X.mg "zip" = none) (ha : PA X [e, e2] ta) (hK : X.K = K := by rfl)
    (hs : starEach [e, e2] X.env = (false, eval e X.env) :: starEach [e2] X.env := by rfl)
    (hpl : (backTo pos (starEach [e2] X.env)).any (·.1) = false := by rfl) :
    PI X (.Tuple elts kk tpos) (.Call (.Name "zip" p) [e, e2] [] pos) (iZipM K ta) := by
  subst hK
  constructor
  intro pins s σ H R I h
  refine Call_ (ld_blt I hg hm PyProof.Rows.boot_zip ?_)
  refine PyProof.Rows.callWith_type1 (thn (ha.run pos pins s σ H _ I h) ?_) hs hpl
  rintro us s1 ⟨vs, H1, I1, r1, a, b, xs, ys, rfl, hqx, hqy, q⟩
  obtain ⟨u, v, rfl, ra, rb⟩ : ∃ u v, us = [u, v] ∧ RelV (V.ref a) u ∧ RelV (V.ref b) v := by
    cases r1 with
    | cons r t =>
      cases t with
      | cons r' t' => cases t'; exact ⟨_, _, rfl, r, r'⟩
  cases ra
  cases rb
  obtain ⟨its, rv, p1, _⟩ := I1.list hqx
  obtain ⟨jts, rv2, p2, _⟩ := I1.tuple hqy
  obtain ⟨o2, ho2, _⟩ := id p2
  have la : a < s1.heap.objs.size := p1.lt
  have lb : b < s1.heap.objs.size := Heap.lt_size ho2
  refine zip_begins2 (begins_list a its.toArray) (begins_tuple b jts.toArray) p1.isList p2 ?_
  intro h' hz hTI hTO g1 g2 hsz hk
  refine wpAny_pyIter_zip hz ?_
  have I2 : Inv X pins σ H1 { s1 with heap := h' } := I1.kept (t' := s1.toks) hk
  refine ⟨s1.heap.objs.size + 4, [s1.heap.objs.size + 4, s1.heap.objs.size + 2, s1.heap.objs.size + 3, s1.heap.objs.size, s1.heap.objs.size + 1],
    _, _, H1, rfl, I2, turn_zipM (PySem.W.ktu_apart s1.heap.objs.size a b la lb), ⟨hz, hTI, ⟨_, _, hTO⟩, ⟨_, g1, rfl, rfl⟩, ⟨_, g2, rfl, rfl⟩⟩, ?_, q⟩
  intro c hcm
  have le : s1.heap.objs.size ≤ c := by
    rcases five hcm with z | z | z | z | z
    · rw [z]; exact Nat.le_add_right _ _
    · rw [z]; exact Nat.le_add_right _ _
    · rw [z]; exact Nat.le_add_right _ _
    · rw [z]; exact Nat.le_refl _
    · rw [z]; exact Nat.le_add_right _ _
  exact I1.fpOk le (I1.hok.fresh le)
end Ly

namespace Ly
open PySem PySem.Spec PyProof.Rows L2 Am
/-! how long the text of an amount is -/
theorem int_shown {i : Int} (h : i.natAbs < 2 ^ 64) : (PyData.int i).shown.length ≤ 66 ∧ (PyData.int i).showable = true := by
  have hl : i.natAbs.log2 < 65 := by
    by_cases z : i.natAbs = 0
    · rw [z]; decide
    · have := (Nat.log2_lt z).mpr h; omega
  refine ⟨?_, by rw [PyData.showable]; exact decide_eq_true (by omega)⟩
  rw [PyData.shown]
  have := int_text_length_le (a := i) (k := 65) (by decide) hl
  rw [PySem.ofString_length]; omega
theorem join_len (c : Nat) : ∀ ts : List Str, (∀ t ∈ ts, t.length ≤ c) → (Str.join ", " ts).length ≤ ts.length * (c + 2) := by
  intro ts h
  by_cases e : ts = []
  · subst e; show (0 : Nat) ≤ _; omega
  · have h1 := join_length_add ts e
    have h2 : piled ts ≤ ts.length * (c + 2) := by
      clear e h1
      induction ts with
      | nil => show (0 : Nat) ≤ _; omega
      | cons t r ih =>
        have h3 := ih fun x hx => h x (List.mem_cons_of_mem _ hx)
        have h4 := h t List.mem_cons_self
        rw [List.length_cons, Nat.add_mul, piled_cons]
        omega
    omega
theorem shownAll_map : ∀ ds : List PyData, PyData.shownAll ds = ds.map PyData.shown
  | [] => by rw [PyData.shownAll]; rfl
  | d :: r => by rw [PyData.shownAll, shownAll_map r]; rfl
theorem tup_len (c : Nat) {ds : List PyData} (h : ∀ d ∈ ds, d.shown.length ≤ c) : (PyData.tuple ds).shown.length ≤ ds.length * (c + 2) + 4 := by
  rw [PyData.shown, shownAll_map]
  have h1 := join_len c (ds.map PyData.shown) (by
    intro t ht
    obtain ⟨d, hd, rfl⟩ := List.mem_map.mp ht
    exact h d hd)
  rw [List.length_map] at h1
  unfold tupleText
  have ap : ∀ a b : Str, (a ++ b).length = a.length + b.length := fun a b => by
    show (a.cps ++ b.cps).size = a.cps.size + b.cps.size
    exact Array.size_append
  rw [ap, ap]
  have e1 : ("(" : Str).length = 1 := by rfl
  have e2 : ((if ((ds.map PyData.shown).length == 1) = true then ",)" else ")" : String) : Str).length ≤ 2 := by
    split
    · exact Nat.le_refl 2
    · show (1 : Nat) ≤ 2; omega
  rw [e1]
  omega
/-- one that can be told -/
structure Told (c : Nat) (d : PyData) : Prop where
  show_ : d.showable = true
  dict : d.hasDict = false
  len : d.shown.length ≤ c
theorem told_int {i : Int} (h : i.natAbs < 2 ^ 64) : Told 66 (.int i) := ⟨(int_shown h).2, by rw [PyData.hasDict], (int_shown h).1⟩
theorem all_show {c : Nat} : ∀ {ds : List PyData}, (∀ d ∈ ds, Told c d) → PyData.showableAll ds = true ∧ PyData.hasDictAll ds = false
  | [], _ => ⟨by rw [PyData.showableAll], by rw [PyData.hasDictAll]⟩
  | d :: r, h => by
    obtain ⟨h1, h2⟩ := all_show (ds := r) fun x hx => h x (List.mem_cons_of_mem _ hx)
    have h3 := h d List.mem_cons_self
    exact ⟨by rw [PyData.showableAll, h3.show_, h1]; rfl, by rw [PyData.hasDictAll, h3.dict, h2]; rfl⟩
theorem told_tup {c : Nat} {ds : List PyData} (h : ∀ d ∈ ds, Told c d) : Told (ds.length * (c + 2) + 4) (.tuple ds) := by
  obtain ⟨h1, h2⟩ := all_show h
  exact ⟨by rw [PyData.showable]; exact h1, by rw [PyData.hasDict]; exact h2, tup_len c fun d hd => (h d hd).len⟩
theorem Told.mono {c e : Nat} {d : PyData} (h : Told c d) (hc : c ≤ e) : Told e d := ⟨h.show_, h.dict, Nat.le_trans h.len hc⟩
theorem dep_pair (q : Int × Int) : (PyData.tuple [.int q.1, .int q.2]).depth ≤ 2 := by simp [PyData.depth, PyData.depthAll]
theorem dep_pairs : ∀ L : List (Int × Int), PyData.depthAll (L.map fun q => .tuple [.int q.1, .int q.2]) ≤ 2
  | [] => by simp [PyData.depthAll]
  | q :: r => by
    have h1 := dep_pairs r
    have h2 := dep_pair q
    rw [List.map_cons, PyData.depthAll]; omega
theorem amt_depth (d : Int) (L : List (Int × Int)) : (amtD d L).depth ≤ 4 := by
  have := dep_pairs L
  unfold amtD
  simp only [PyData.depth, PyData.depthAll]
  omega
theorem amt_told {d : Int} {L : List (Int × Int)} (hd : d.natAbs < 2 ^ 64) (hl : L.length ≤ 1001) (h : ∀ q ∈ L, q.1.natAbs < 2 ^ 64 ∧ q.2.natAbs < 2 ^ 64) : Told 300000 (amtD d L) := by
  have hp : ∀ x ∈ L.map (fun q => PyData.tuple [.int q.1, .int q.2]), Told 140 x := by
    intro x hx
    obtain ⟨q, hq, rfl⟩ := List.mem_map.mp hx
    have h1 := h q hq
    have h2 : ∀ y ∈ [PyData.int q.1, PyData.int q.2], Told 66 y := by
      intro y hy
      rcases List.mem_cons.mp hy with e | hy
      · rw [e]; exact told_int h1.1
      · rw [List.mem_singleton.mp hy]; exact told_int h1.2
    exact (told_tup h2).mono (by show 2 * 68 + 4 ≤ 140; omega)
  have hP := told_tup hp
  rw [List.length_map] at hP
  have hA : ∀ y ∈ [PyData.int d, .tuple (L.map fun q => .tuple [.int q.1, .int q.2])], Told 143000 y := by
    intro y hy
    rcases List.mem_cons.mp hy with e | hy
    · rw [e]; exact (told_int hd).mono (by omega)
    · rw [List.mem_singleton.mp hy]; exact hP.mono (by omega)
  exact (told_tup hA).mono (by show 2 * (143000 + 2) + 4 ≤ 300000; omega)
/-- repr of an amount as it stands -/
theorem AmtAt.repr {K : PySem.W.Frag} {H : Hp} {v : V} {d : Int} {L : List (Int × Int)} {Q : VK} (h : AmtAt K H v d L) (hd : d.natAbs < 2 ^ 64) (hl : L.length ≤ 1001)
    (hq : ∀ q ∈ L, q.1.natAbs < 2 ^ 64 ∧ q.2.natAbs < 2 ^ 64) (q : Q (.str (amtD d L).shown) H) : rRepr K [v] H Q := by
  have t := amt_told hd hl hq
  obtain ⟨a, b, rs, e, _⟩ := id h
  refine ⟨a, amtD d L, by rw [e], by rw [← e]; exact h.dp, t.show_, t.dict, by have := amt_depth d L; omega, by have := t.len; rw [sizeLine_eq]; omega, q⟩
end Ly

namespace Ly
open PySem PySem.Spec PyProof.Rows L2
section
variable {prog : Program} {w : World} {A : Around} {E : Value → Shared → Prop} {s : Shared}
/-! sorted of a tuple -/
theorem sorted_tupO {t : Addr} {vs : List Value} {ltv : Value → Value → Bool} {Q : Value → Shared → Prop}
    (O : SrtO.Swo ltv) (hl : IsTup s.heap t vs.toArray) (hz : vs.length ≤ sizeLine)
    (hS : 2 ≤ vs.length → ∀ (h₁ : Heap) (a : Addr), h₁.get? a = some (seqObj "list" vs.toArray 0) →
      SrtO.SortableO prog w A.in1.in1 { s with heap := h₁ } a vs ltv)
    (h : ∀ (h0 : Heap) (out : List Value), (∀ b o, s.heap.get? b = some o → h0.get? b = some o) →
      SrtO.Srtd ltv out → SrtO.Stb ltv out vs →
      Q (.ref h0.objs.size) { s with heap := sortedHeap (h0.push (seqObj "list" vs.toArray 0)) h0.objs.size vs out.toArray }) :
    wpAny (model prog w) A (call (.builtin "sorted") [.ref t]) Q E s := by
  obtain ⟨o, ho, hc, n, hd⟩ := id hl
  refine Calls.call_function_entry kind_sorted plain_sorted entry_sorted (args_sorted1 _) ?_
  unfold Builtin.«sorted»
  refine wpAny_bind (m := checkCount "sorted" 1 1 _) (wpAny_pure ?_)
  refine wpAny_bind (wpAny_collect_seq t (T := "tuple") (.inr rfl) ho hc hd ?_ (by rw [List.size_toArray]; exact hz))
  intro h0 keep
  have e0 : vs.toArray.toList = vs := by simp
  rw [e0]
  refine wpAny_bind (wpAny_newList ?_ hz)
  have hoL : (h0.push (seqObj "list" vs.toArray 0)).get? h0.objs.size = some (seqObj "list" vs.toArray 0) := Heap.get?_push_size _ rfl
  show wpAny _ _ _ _ _ { s with heap := h0.push (seqObj "list" vs.toArray 0) }
  refine wpAny_bind (wpAny_holding (wpAny_call_entry slot_list_sort ⟨_, hoL, rfl⟩ entry_list_sort ?_ (args_list_sort _)))
  refine SrtO.list_sort_ord O hoL hz (fun h2 => hS h2 _ _ hoL) fun out hs hb => ⟨_, rfl, ?_⟩
  exact wpAny_pure ⟨_, rfl, h h0 out keep hs hb⟩
end
def rSortedTI (K : PySem.W.Frag) : List V → Hp → VK → Prop := fun vs H Q => ∃ (a : Addr) (ns : List Int),
  vs = [V.ref a] ∧ SqT K H a (ns.map V.int) ∧
  ∀ (ns' : List Int) (p : Addr), ns'.Perm ns → ns'.Pairwise (· ≤ ·) → H p = none → Q (.ref p) (upd H p (.lst (ns'.map V.int)))
section
variable {X : Cx}
theorem cr_sortedTI : CallR X (.builtin "sorted") (rSortedTI X.K) := by
  intro pins s σ H vs us Q I r h
  obtain ⟨a, ns, rfl, hs, q⟩ := h
  obtain ⟨its, rv, hl, hz⟩ := I.tuple hs
  rw [Vals.ref1 r]
  have hi := rv.ints
  refine sorted_tupO SrtO.swo_int hl (by rw [← rv.length]; exact hz) (fun h2 h₁ a' _ => SrtO.ints_sortable hi h2) ?_
  intro h0 out keep h1 h2
  obtain ⟨k1, k2, k3⟩ := SrtO.ints_out hi h1 h2
  have hoL : (h0.push (seqObj "list" its.toArray 0)).get? h0.objs.size = some (seqObj "list" its.toArray 0) := Heap.get?_push_size _ rfl
  obtain ⟨ep, he'⟩ := PyProof.Rows.sortedHeap_at (vs := its) (out := out.toArray) hoL
  have hlen : ((out.map SrtO.iv).map V.int).length ≤ sizeLine := by
    rw [List.length_map, k2.length_eq]
    rw [List.length_map] at hz
    exact hz
  have I0 : Inv X pins σ H { s with heap := h0 } := I.kept (t' := s.toks) keep
  have old : ∀ b o, h0.get? b = some o → (sortedHeap (h0.push (seqObj "list" its.toArray 0)) h0.objs.size its out.toArray).get? b = some o := by
    intro b o hb
    have lt : b < h0.objs.size := Heap.lt_size hb
    rw [PyProof.Rows.sortedHeap_old (Nat.ne_of_lt lt) (by rw [size_push']; exact Nat.lt_succ_of_lt lt)]
    exact Heap.get?_push_of_some _ hb
  refine ⟨.ref _, upd H h0.objs.size (.lst ((out.map SrtO.iv).map V.int)), I0.laid (t' := s.toks) old (Nat.le_refl _) ?_, rfl, q _ _ k2 k3 (I0.hok.fresh (Nat.le_refl _))⟩
  exact ⟨hlen, out, ep, vals_of_ints k1, he'⟩
end
/-! a tuple turned about -/
theorem fm_congr {α β : Type} (f g : α → Option β) : ∀ (l : List α), (∀ x ∈ l, f x = g x) → l.filterMap f = l.filterMap g
  | [], _ => rfl
  | x :: r, h => by
    rw [List.filterMap_cons, List.filterMap_cons, h x List.mem_cons_self, fm_congr f g r fun y hy => h y (List.mem_cons_of_mem _ hy)]
section
variable {prog : Program} {w : World} {A : Around} {E : Value → Shared → Prop} {s : Shared}
theorem rev_get {t sl : Addr} {items : Array Value} {u : Tok} {Q : Value → Shared → Prop} (ht : IsTup s.heap t items)
    (hs : s.heap.IsSliceOf sl .none .none (.int (-1) u)) (hsz : items.size ≤ sizeLine)
    (h : Q (.ref s.heap.objs.size) { s with heap := s.heap.push { cls := .type "tuple", data := .seq items.toList.reverse.toArray } }) :
    wpAny (model prog w) A (getItem (.ref t) (.ref sl)) Q E s := by
  obtain ⟨os, hos, hcs, hds⟩ := id hs
  have hTs : s.TypeIs (.ref sl) "slice" := ⟨os, hos, hcs⟩
  unfold getItem
  try with_reducible refine wpAny_holding ?_
  first | refine wpAny_bind (wpAny_pure ?_) | skip
  refine wpAny_bind (wpAny_sequenceKey ht.typeIs (by decide) ?_)
  refine wpAny_bind (wpAny_callSpecial?_slot (name := Str.ofString "__getitem__") ht.typeIs PyProof.Rows.slot_tuple_getitem ?_)
  refine wpAny_call_entry PyProof.Rows.slot_tuple_getitem ht.typeIs entry_tuple_getitem ?_ (args_tuple_getitem _ _)
  show wpAny _ _ (Builtin.Tuple.tupleItemsOf (.ref t) >>= _) _ _ s
  refine wpAny_bind (tupleItemsOf_ ht ?_)
  refine wpAny_bind (wpAny_typeOf hTs ?_)
  rw [if_pos (by decide)]
  refine wpAny_bind ?_
  unfold Builtin.Slice.sliceApplied Builtin.Slice.sliceFields
  refine wpAny_bind (wpAny_bind (wpAny_field hos hds (x := .none) rfl (wpAny_bind (wpAny_field hos hds (x := .none) rfl (wpAny_bind (wpAny_field hos hds (x := .int (-1) u) rfl (wpAny_pure ?_)))))))
  refine wpAny_bind (PyProof.Rows.slicePart_int ?_)
  show wpAny _ _ (if ((-1 : Int) == 0) = true then _ else _) _ _ s
  rw [if_neg (by decide)]
  refine wpAny_bind (PyProof.Rows.slicePart_none (wpAny_bind (PyProof.Rows.slicePart_none (wpAny_bind (wpAny_pure ?_)))))
  have adj : Builtin.Slice.sliceAdjust none none (-1) (items.size : Int) = ((items.size : Int) - 1, -1) := by
    unfold Builtin.Slice.sliceAdjust
    rfl
  have plc : Builtin.Slice.slicePlaces ((items.size : Int) - 1) (-1) (-1) = items.size := by
    unfold Builtin.Slice.slicePlaces
    rw [if_neg (by decide)]
    by_cases z : (items.size : Int) - 1 > -1
    · rw [if_pos z, show ((items.size : Int) - 1 - -1 - 1) = (items.size : Int) - 1 by omega, show (-(-1) : Int) = 1 by rfl, Int.ediv_one]; omega
    · rw [if_neg z]; omega
  show wpAny _ _ (match Builtin.Slice.sliceAdjust none none (-1) (items.size : Int) with
    | (lo, hi) => pure (lo, (-1 : Int), Builtin.Slice.slicePlaces lo hi (-1))) _ _ s
  rw [adj]
  show wpAny _ _ (pure ((items.size : Int) - 1, (-1 : Int), Builtin.Slice.slicePlaces ((items.size : Int) - 1) (-1) (-1))) _ _ s
  rw [plc]
  refine wpAny_pure ?_
  have no : ¬ ((((items.size : Int) - 1 == 0) && ((-1 : Int) == 1) && (items.size == items.size)) = true) := by
    rw [show ((-1 : Int) == 1) = false by rfl, Bool.and_false, Bool.false_and]; exact Bool.false_ne_true
  have pick : ((List.range items.size).filterMap fun (k : Nat) => items[((items.size : Int) - 1 + (k : Int) * -1).toNat]?) = items.toList.reverse := by
    have e1 : ((List.range items.size).filterMap fun (k : Nat) => items[((items.size : Int) - 1 + (k : Int) * -1).toNat]?) =
        ((List.range items.size).map fun k => items.size - 1 - k).filterMap fun i => items[i]? := by
      rw [List.filterMap_map]
      refine fm_congr _ _ _ fun k hk => ?_
      have := List.mem_range.mp hk
      show items[((items.size : Int) - 1 + (k : Int) * -1).toNat]? = items[items.size - 1 - k]?
      congr 1
      omega
    have e2 : ((List.range items.size).map fun k => items.size - 1 - k) = (List.range items.size).reverse := by
      apply List.ext_getElem
      · simp
      · intro i h1 h2; simp
    have e3 : (List.range items.size).filterMap (fun i => items[i]?) = items.toList := by
      have g : ∀ l : List Value, (List.range l.length).filterMap (fun i => l[i]?) = l := by
        intro l
        induction l with
        | nil => rfl
        | cons x r ih =>
          rw [List.length_cons, List.range_succ_eq_map, List.filterMap_cons]
          simp only [List.getElem?_cons_zero]
          rw [List.filterMap_map]
          congr 1
      have := g items.toList
      simpa using this
    rw [e1, e2, List.filterMap_reverse, e3]
  show wpAny _ _ (if (((items.size : Int) - 1 == 0) && ((-1 : Int) == 1) && (items.size == items.size)) = true then _ else _) _ _ s
  rw [if_neg no, pick]
  refine wpAny_bind (m := Builtin.Tuple.tupleExact _) (wpAny_newObj_type (wpAny_pure ⟨_, rfl, wpAny_pure h⟩) ?_)
  show items.toList.reverse.toArray.size ≤ sizeLine
  rw [List.size_toArray, List.length_reverse, Array.length_toList]; exact hsz
end
def tRevT (K : PySem.W.Frag) (te : TE) : TE := fun σ H Q => te σ H fun x H1 => ∃ a xs,
  x = .ref a ∧ SqT K H1 a xs ∧ ∀ p, H1 p = none → Q (.ref p) (upd H1 p (.tup xs.reverse))
theorem pe_revT {X : Cx} {e : Expr} {te : TE} {k : Nat} {p1 p2 p3 pos : Pos} (he : PE X e te) :
    PE X (.Subscript e (.Slice none none (some (.UnaryOp .USub (.Constant (.int 1) k p1) p2)) p3) pos) (tRevT X.K te) := by
  constructor
  intro pins s σ H Q I h
  refine Subscript_ (thn (he.run pins s σ H _ I h) ?_)
  rintro v s1 ⟨x, H1, I1, r1, a, xs, rfl, hx, q⟩
  cases r1
  have hst : PO X (some (.UnaryOp .USub (.Constant (.int 1) k p1) p2)) (tPart (tUn (rU fun i => .int (-i)) (tC (.int 1)))) :=
    po_some (pe_un un_neg pe_int)
  refine wpAny_Slice (thn (po_none.run pins s1 σ H1 (fun o H2 => o = none ∧ H2 = H1) I1 ⟨rfl, rfl⟩) ?_)
  rintro vl s2 ⟨l, H2, I2, pl, rfl, rfl⟩
  refine thn (po_none.run pins s2 σ H2 (fun o H3 => o = none ∧ H3 = H2) I2 ⟨rfl, rfl⟩) ?_
  rintro vu s3 ⟨u, H3, I3, pu, rfl, rfl⟩
  refine thn (hst.run pins s3 σ H3 (fun o H4 => o = some (-1) ∧ H4 = H3) I3 ⟨1, rfl, -1, rfl, rfl, rfl⟩) ?_
  rintro vs s4 ⟨o, H4, I4, ps, rfl, rfl⟩
  have I5 : Inv X pins σ H4 { s4 with heap := s4.heap.push { cls := .type "slice", data := .fields #[vl, vu, vs] } } :=
    I4.kept (t' := s4.toks) fun b ob q => Heap.get?_push_of_some _ q
  obtain ⟨its, r, ht, hz⟩ := I5.tuple hx
  have hlen := r.length
  cases pl
  cases pu
  cases ps
  rename_i t4
  show wpAny (model X.prog X.w) X.A (subscriptTail e _ (.ref a) (.ref s4.heap.objs.size)) (EP X pins σ Q) X.xe _
  refine tail_any (ops := [.ref a, .ref s4.heap.objs.size]) ht.typeIs PyProof.Rows.slot_tuple_getitem.lookup ?_ (by with_unfolding_all rfl)
  refine rev_get ht (Heap.IsSliceOf.new _ _ _ _) (by rw [List.size_toArray]; omega) ?_
  have e9 : its.toArray.toList = its := by simp
  rw [e9]
  refine ⟨.ref _, _, I5.laid (t' := s4.toks) (o := .tup xs.reverse) (fun b ob q => Heap.get?_push_of_some _ q) (Nat.le_refl _) ?_, rfl, q _ (I5.hok.fresh (Nat.le_refl _))⟩
  exact ⟨by rw [List.length_reverse]; exact hz, its.reverse, r.reverse, IsTup.new _ _⟩
/-! f(k = v) -/
section
variable {X : Cx} {k j : Nat} {st : Stmt} {ps ks : List Str} {sp : Sp} {x : Str} {p pos : Pos} {tk : TA} {kws : List Keyword}
theorem pe_caK (ks : List Str) (c : Ca X.prog X.w X.K X.mg X.base k x st ps sp) (hr : Room j X.A) (hkw : PK X kws tk)
    (hb : ∀ (kV doc pm : Value) (an : Option Addr) (cdv ct : Value) (us ws : List Value), (us ++ ws).length = ps.length →
      bindArgs (PySem.W.fnOf x x (defArgs st) (defBody st) (defScope st) .none kV doc pm an cdv ct) ⟨us, ks.zip ws⟩ = pure (ps.zip (us ++ ws)))
    (hg : Gl X x := by rfl) (hj : k ≤ j := by decide)
    (hall : (backToKw pos (keywordEach kws X.env)).all (·.1.isSome) = true := by rfl)
    (hks : (backToKw pos (keywordEach kws X.env)).filterMap (·.1) = ks := by rfl)
    (hdb : (x == ("__debug__" : Str)) = false := by decide)
    (hpl : ((backTo pos (starEach [] X.env)).any (·.1) || (backToKw pos (keywordEach kws X.env)).any (·.1.isNone)) = false := by rfl) :
    PE X (.Call (.Name x p) [] kws pos) (fun σ H Q => tk σ H fun zs H2 => sp zs H2 Q E0) := by
  obtain ⟨f, fd, F, D, B, g⟩ := c.ex
  have kb : KBinds X.K fd ps ks (fun us ws => us ++ ws) (fun vs zs => vs ++ zs) := by
    obtain ⟨oc, od, dV, kV, doc, pm, an, cdv, ct, osl, rfl, lk, hcd, hD, hK⟩ := D.ex
    rcases hD with ⟨_, rfl⟩ | ⟨e, _⟩
    · exact ⟨fun s us ws _ hl => .of_eq (hb kV doc pm an cdv ct us ws hl), fun r1 r2 => r1.append r2⟩
    · exact absurd rfl e
  exact pe_callK0 (gV := fun vs zs => vs ++ zs) F (hr.mono hj) hg g D.kp kb pass0 hkw hall hks hdb hpl
end
end Ly

/-! set(xs) of a list of ints that sorted(..) then walks -/
namespace Ly
open PySem PySem.Spec PyProof.Rows L2
section
variable {P : Program} {w : World} {A : Around} {E : Value → Shared → Prop} {s : Shared}
/-- what set(..) starts from -/
abbrev nulS (w : World) : Obj := { cls := .type "set", dict := none, data := .set #[] 0 (.fresh 0 0 (!w.params.followText "set-order")) }
/-- what the machine holds once the new set is filled -/
def FilledS (w : World) (s : Shared) (ns : List Int) (t : Shared) : Prop :=
  ∃ hp tk c, t = { s with heap := hp, toks := tk } ∧ SetR w hp s.heap.objs.size (fun j => decide (j ∈ ns)) c ∧ c ≤ ns.length ∧ ∀ b o, s.heap.get? b = some o → hp.get? b = some o
theorem setL_call {l : Addr} {items : Array Value} (ns : List Int) {Q : Value → Shared → Prop} (hh : A.handled = none) (hl : s.heap.IsList l items) (hit : IntsAre items.toList ns) (hb : ns.length + 1 < scanBound)
    (h : ∀ t, FilledS w s ns t → Q (.ref s.heap.objs.size) t) : wpAny (model P w) A (call (.type "set") [.ref l]) Q E s := by
  have len : items.size = ns.length := by
    have := IntsAre.length hit
    rwa [Array.length_toList] at this
  have k1 := F.called_set.notType
  have k2 := F.called_set.canCreate
  have k3 := F.typeCall_set_1 (.ref l)
  have k4 := F.called_set.made
  have k5 := F.called_set.sub
  obtain ⟨c, tl, k6⟩ := F.called_set.mro
  refine wpAny_call (codeAny_of_tree ?_)
  show wpAny _ _ (callAny (.type "set") _) _ _ _
  refine wpAny_pure ⟨Code.quiet_builtin _ (by decide +kernel), codeAny_builtin F.entry_type_call ?_⟩
  rw [Around.under_plain (weight_type_call_type "set" [.ref l] []) rfl]
  repeat (any_goals (first | assumption | wp_step))
  refine codeAny_mono (code_set_led1 (.ref l) (E := E) (Q₁ := fun x t => x = .ref s.heap.objs.size ∧ t = { s with heap := s.heap.push (nulS w) }) ⟨rfl, rfl⟩) fun r t hr => ?_
  cases r with
  | error e => exact hr
  | ok fl =>
    cases fl with
    | ret x =>
      obtain ⟨rfl, rfl⟩ := hr
      have self : (s.heap.push (nulS w)).get? s.heap.objs.size = some (nulS w) := Heap.get?_push_size _ rfl
      have ty : Shared.TypeIs { s with heap := s.heap.push (nulS w) } (.ref s.heap.objs.size) "set" := ⟨_, self, rfl⟩
      have k7 := F.called_set.init.lookup
      have k8 := F.called_set.init.bind (.ref s.heap.objs.size)
      repeat (any_goals (first | assumption | wp_step))
      refine codeAny_mono (codeAny_call_builtin (R := wants (fun r t => r = .none ∧ FilledS w s ns t) E) F.called_set.init.plain F.entry_set_init (check_set_init_1 ty ?_)) fun r2 t2 hr2 => ?_
      · obtain ⟨⟨oc, od, dat, os⟩, ho, hc, nl, hd⟩ := hl
        simp only at hc hd
        subst hc; subst hd
        have there : (s.heap.push (nulS w)).get? l = some { cls := .type "list", dict := od, data := .seq items nl, slots := os } := Heap.get?_push_of_some _ ho
        have lst : (s.heap.push (nulS w)).IsList l items := ⟨_, there, rfl, nl, rfl⟩
        have n1 := F.sub_list_set
        have n2 := F.sub_list_frozenset
        have n3 : (Value.type "list" == Value.type "dict") = false := by decide
        have lS : l < s.heap.objs.size := Heap.lt_size ho
        have sz : (s.heap.push (nulS w)).objs.size = s.heap.objs.size + 1 := Heap.size_push ..
        unfold Builtin.«set.__init__» noKeywords Builtin.Frozenset.updateFrom
        generalize hPI : pyIter = PI
        wp_walk
        subst hPI
        refine wpAny_pyIter_list lst (wpAny_bind (wpAny_runValue ?_))
        have h3 : A.in1.in1.in1.handled = none := by simp [hh]
        have apart : s.heap.objs.size ∉ [(s.heap.push (nulS w)).objs.size, l] := fun z => by
          rw [sz] at z
          rcases List.mem_cons.mp z with e | z
          · exact absurd e (Nat.ne_of_lt (Nat.lt_succ_self _))
          · exact Nat.ne_of_gt lS (List.mem_singleton.mp z)
        have val : ∀ (i : Nat) (v : Value), items[i]? = some v → ∃ k t, ns[i]? = some k ∧ v = .int k t := fun i v hv => by
          have hi : i < ns.length := by rw [← len]; exact (Array.getElem?_eq_some_iff.mp hv).1
          obtain ⟨t, e⟩ := PyProof.Rows.IntsAre.int_at hit i v (by rw [Array.getElem?_toList]; exact hv)
          exact ⟨ns[i], t, List.getElem?_eq_getElem hi, by rw [e, List.getD_eq_getElem?_getD, List.getElem?_eq_getElem hi]; rfl⟩
        refine set_update_ints ((Walks.list h3 _ l (by rw [sz]; exact Nat.ne_of_lt (Nat.lt_succ_of_lt lS)) items).toS) s.heap.objs.size apart ns len hb val (items.size - 0) 0 _ (by omega) (Nat.zero_le _) ⟨⟨_, Heap.get?_push_size _ rfl, rfl, rfl⟩, (lst.push _)⟩ ⟨0, Nat.le_refl 0, setR_new_at (Heap.get?_push_of_some _ self)⟩ ?_
        intro t c mv hc' hS
        obtain ⟨hp, gg, dd, tk, oo⟩ := t
        have e1 : gg = s.gens := mv.gens
        have e2 : dd = s.drawn := mv.drawn
        have e3 : oo = s.os := mv.os
        subst e1; subst e2; subst e3
        show wpAny _ _ _ _ _ _
        refine wpAny_pure ?_
        show wpAny _ _ (ret Value.none) _ _ _
        rw [len] at hc'
        refine wpAny_pure ⟨rfl, hp, tk, c, rfl, hS, hc', fun b o e => ?_⟩
        have bl : b < s.heap.objs.size := Heap.lt_size e
        refine mv.heap b o (fun z => ?_) (Heap.get?_push_of_some _ (Heap.get?_push_of_some _ e))
        rcases List.mem_cons.mp z with e | z
        · exact Nat.ne_of_lt bl e
        · have := List.mem_singleton.mp z
          rw [sz] at this
          exact Nat.ne_of_lt (Nat.lt_succ_of_lt bl) this
      · cases r2 with
        | error e => exact hr2
        | ok f2 =>
          cases f2 with
          | ret r =>
            obtain ⟨rfl, hF⟩ := hr2
            have hQ := h _ hF
            repeat (any_goals (first | assumption | wp_step))
          | _ => exact hr2.elim
    | _ => exact hr.elim
end
section
variable {X : Cx}
def rSetL (K : PySem.W.Frag) (w : World) : List V → Hp → VK → Prop := fun xs H Q => ∃ (l : Addr) (ns : List Int), xs = [V.ref l] ∧ SqL K H l (ns.map V.int) ∧ ns.length ≤ 1000 ∧
  ∀ a c H', Same H H' → H' a = some (SetO w a (fun j => decide (j ∈ ns)) c) → c ≤ ns.length → Q (.ref a) H'
theorem cr_setL (hc : X.calm = true) : CallR X (.type "set") (rSetL X.K X.w) := by
  intro pins s σ H xs us Q I r h
  obtain ⟨l, ns, rfl, hS, hl, q⟩ := h
  rw [Vals.ref1 r]
  obtain ⟨its, rv, pl, hz⟩ := I.list hS
  refine setL_call ns (I.ok.hd hc) pl.isList (by simpa using ints_of_vals rv) (by unfold scanBound; omega) ?_
  rintro t ⟨hp, tk, c, rfl, R, cl, k⟩
  exact ⟨.ref _, upd H s.heap.objs.size (SetO X.w s.heap.objs.size (fun j => decide (j ∈ ns)) c), I.laid (t' := tk) k (Nat.le_refl _) (setO_new R), rfl, q _ c _ (same_new (I.hok.fresh (Nat.le_refl _))) upd_same cl⟩
end
end Ly

/-! calls by name alone, in the reverse order of the parameters; repr of what is made of ints, bools and amounts -/
namespace Ly
open PySem PySem.Spec PyProof.Rows L2
def gR {α : Type} : List α → List α → List α
  | [], ws => ws.reverse
  | _ :: _, _ => []
section
variable {X : Cx} {k j : Nat} {st : Stmt} {ps ks : List Str} {sp : Sp} {x : Str} {p pos : Pos} {tk : TA} {kws : List Keyword}
theorem pe_caKr (ks : List Str) (c : Ca X.prog X.w X.K X.mg X.base k x st ps sp) (hr : Room j X.A) (hkw : PK X kws tk)
    (hb : ∀ (kV doc pm : Value) (an : Option Addr) (cdv ct : Value) (ws : List Value), ws.length = ps.length →
      bindArgs (PySem.W.fnOf x x (defArgs st) (defBody st) (defScope st) .none kV doc pm an cdv ct) ⟨[], ks.zip ws⟩ = pure (ps.zip ws.reverse))
    (hp : 0 < ps.length := by decide) (hg : Gl X x := by rfl) (hj : k ≤ j := by decide)
    (hall : (backToKw pos (keywordEach kws X.env)).all (·.1.isSome) = true := by rfl)
    (hks : (backToKw pos (keywordEach kws X.env)).filterMap (·.1) = ks := by rfl)
    (hdb : (x == ("__debug__" : Str)) = false := by decide)
    (hpl : ((backTo pos (starEach [] X.env)).any (·.1) || (backToKw pos (keywordEach kws X.env)).any (·.1.isNone)) = false := by rfl) :
    PE X (.Call (.Name x p) [] kws pos) (fun σ H Q => tk σ H fun zs H2 => sp zs.reverse H2 Q E0) := by
  obtain ⟨f, fd, F, D, B, g⟩ := c.ex
  have kb : KBinds X.K fd ps ks gR gR := by
    obtain ⟨oc, od, dV, kV, doc, pm, an, cdv, ct, osl, rfl, lk, hcd, hD, hK⟩ := D.ex
    rcases hD with ⟨_, rfl⟩ | ⟨e, _⟩
    · refine ⟨fun s us ws _ hl => ?_, fun {vs us zs ws} r1 r2 => ?_⟩
      · cases us with
        | nil => exact .of_eq (hb kV doc pm an cdv ct ws (by rw [← hl]; exact (List.length_reverse).symm))
        | cons u r => exact absurd hl (by show 0 ≠ _; omega)
      · cases r1 with
        | nil => exact r2.reverse
        | cons a b => exact .nil
    · exact absurd rfl e
  exact pe_callK0 (gV := gR) F (hr.mono hj) hg g D.kp kb pass0 hkw hall hks hdb hpl
end
/-- what repr tells of a tuple of data that is told short -/
theorem tup_rp {K : PySem.W.Frag} {H : Hp} {p : Addr} {xs : List V} {ds : List PyData} {c : Nat} (hp : SqT K H p xs) (h : DpAll K H xs ds) (t : ∀ d ∈ ds, Told c d) (dep : ∀ d ∈ ds, d.depth ≤ 40)
    (len : ds.length * (c + 2) + 4 ≤ 16000000) :
    Dp K H (.ref p) (.tuple ds) ∧ (PyData.tuple ds).showable = true ∧ (PyData.tuple ds).hasDict = false ∧ (PyData.tuple ds).depth ≤ 60 ∧ (PyData.tuple ds).shown.length ≤ sizeLine := by
  have tt := told_tup t
  refine ⟨.tup hp h, tt.show_, tt.dict, ?_, by have := tt.len; rw [sizeLine_eq]; omega⟩
  have : ∀ ds : List PyData, (∀ d ∈ ds, d.depth ≤ 40) → PyData.depthAll ds ≤ 40 := by
    intro ds
    induction ds with
    | nil => intro _; exact Nat.zero_le _
    | cons d r ih =>
      intro hd
      have h1 := hd d List.mem_cons_self
      have h2 := ih fun x hx => hd x (List.mem_cons_of_mem _ hx)
      simp only [PyData.depthAll]; omega
  have := this ds dep
  simp only [PyData.depth]; omega
theorem told_bool (b : Bool) : Told 66 (.bool b) := by
  refine ⟨?_, ?_, ?_⟩
  · cases b <;> rfl
  · cases b <;> rfl
  · cases b <;> decide +kernel
end Ly

/-! repr of ints and tuples tells unlike values apart -/
namespace Ly
open PySem PySem.Spec PyProof.Rows L2 TL
/-- the signs of what repr tells -/
def sh (d : PyData) : List Nat := tl d.shown
theorem tl_ofS (s : String) : tl (Str.ofString s) = s.toList.map Char.toNat := by
  rw [Str.ofString_eq_toList]
theorem sh_nat (n : Nat) : sh (.int (n : Int)) = numL n := tl_num n
theorem sh_neg (n : Nat) : sh (.int (Int.negSucc n)) = 45 :: numL (n + 1) := by
  have h := tl_num (n + 1)
  show tl (Str.ofString (toString (Int.negSucc n))) = _
  have e : toString (Int.negSucc n) = "-" ++ toString (((n + 1 : Nat)) : Int) := by rfl
  rw [e, ← h, tl_ofS, tl_ofS, String.toList_append, List.map_append]
  rfl
/-- what may follow an int: nothing, or a sign that is no digit -/
def nd (s : List Nat) : Prop := ∀ c r, s = c :: r → c < 48 ∨ 57 < c
theorem dig_split : ∀ {a b s t : List Nat}, (∀ c ∈ a, 48 ≤ c ∧ c ≤ 57) → (∀ c ∈ b, 48 ≤ c ∧ c ≤ 57) → nd s → nd t → a ++ s = b ++ t → a = b ∧ s = t
  | [], [], _, _, _, _, _, _, h => ⟨rfl, h⟩
  | [], c :: r, s, t, _, hb, hs, _, h => by
    have := hs c (r ++ t) h
    have := hb c List.mem_cons_self
    omega
  | c :: r, [], s, t, ha, _, _, ht, h => by
    have := ht c (r ++ s) h.symm
    have := ha c List.mem_cons_self
    omega
  | c :: r, c2 :: r2, s, t, ha, hb, hs, ht, h => by
    rw [List.cons_append, List.cons_append] at h
    obtain ⟨h1, h2⟩ := List.cons.inj h
    obtain ⟨g1, g2⟩ := dig_split (fun x hx => ha x (List.mem_cons_of_mem _ hx)) (fun x hx => hb x (List.mem_cons_of_mem _ hx)) hs ht h2
    exact ⟨by rw [h1, g1], g2⟩
/-- unlike values of this kind are told by unlike signs, whatever follows -/
def Pf (S : PyData → Prop) : Prop := ∀ x y, S x → S y → ∀ s t, nd s → nd t → sh x ++ s = sh y ++ t → x = y ∧ s = t
theorem num_head {n : Nat} : ∃ c r, numL n = c :: r ∧ 48 ≤ c ∧ c ≤ 57 := by
  cases e : numL n with
  | nil => exact absurd e (numL_ne n)
  | cons c r => exact ⟨c, r, rfl, numL_digits n c (by rw [e]; exact List.mem_cons_self)⟩
theorem pf_int : Pf (fun d => ∃ i, d = .int i) := by
  rintro _ _ ⟨i, rfl⟩ ⟨j, rfl⟩ s t hs ht h
  cases i with
  | ofNat n =>
    cases j with
    | ofNat m =>
      rw [Int.ofNat_eq_natCast, Int.ofNat_eq_natCast, sh_nat, sh_nat] at h
      obtain ⟨g1, g2⟩ := dig_split (numL_digits n) (numL_digits m) hs ht h
      rw [numL_inj g1]; exact ⟨rfl, g2⟩
    | negSucc m =>
      rw [Int.ofNat_eq_natCast, sh_nat, sh_neg] at h
      obtain ⟨c, r, e, c1, c2⟩ := num_head (n := n)
      rw [e, List.cons_append, List.cons_append] at h
      have := (List.cons.inj h).1
      omega
  | negSucc n =>
    cases j with
    | ofNat m =>
      rw [Int.ofNat_eq_natCast, sh_nat, sh_neg] at h
      obtain ⟨c, r, e, c1, c2⟩ := num_head (n := m)
      rw [e, List.cons_append, List.cons_append] at h
      have := (List.cons.inj h).1
      omega
    | negSucc m =>
      rw [sh_neg, sh_neg, List.cons_append, List.cons_append] at h
      obtain ⟨g1, g2⟩ := dig_split (numL_digits (n + 1)) (numL_digits (m + 1)) hs ht (List.cons.inj h).2
      have := numL_inj g1
      have e : n = m := by omega
      rw [e]; exact ⟨rfl, g2⟩
/-- what stands behind the first item of a tuple -/
def tlT (xs : List PyData) (f : List Nat) : List Nat := (xs.map fun x => 44 :: 32 :: sh x).flatten ++ f
theorem tlT_nd {xs : List PyData} {f s : List Nat} (hf : f = [41] ∨ f = [44, 41]) : nd (tlT xs f ++ s) := by
  intro c r e
  cases xs with
  | nil =>
    rcases hf with h | h <;> (rw [h] at e; have := (List.cons.inj e).1; omega)
  | cons x xs => have := (List.cons.inj e).1; omega
theorem tlT_split {S : PyData → Prop} (P : Pf S) {f g : List Nat} (hf : f = [41] ∨ f = [44, 41]) (hg : g = [41] ∨ g = [44, 41]) {s t : List Nat} :
    ∀ {xs ys : List PyData}, (∀ x ∈ xs, S x) → (∀ y ∈ ys, S y) → tlT xs f ++ s = tlT ys g ++ t → xs = ys ∧ s = t
  | [], [], _, _, h => by
    refine ⟨rfl, ?_⟩
    rcases hf with rfl | rfl <;> rcases hg with rfl | rfl
    · exact (List.cons.inj h).2
    · exact absurd (List.cons.inj h).1 (by omega)
    · exact absurd (List.cons.inj h).1 (by omega)
    · exact (List.cons.inj (List.cons.inj h).2).2
  | [], y :: ys, _, _, h => by
    rcases hf with rfl | rfl
    · exact absurd (List.cons.inj h).1 (by omega)
    · exact absurd (List.cons.inj (List.cons.inj h).2).1 (by omega)
  | x :: xs, [], _, _, h => by
    rcases hg with rfl | rfl
    · exact absurd (List.cons.inj h).1 (by omega)
    · exact absurd (List.cons.inj (List.cons.inj h).2).1 (by omega)
  | x :: xs, y :: ys, hx, hy, h => by
    have e : ∀ (x : PyData) (xs : List PyData) (f s : List Nat), tlT (x :: xs) f ++ s = 44 :: 32 :: (sh x ++ (tlT xs f ++ s)) := fun x xs f s => by
      unfold tlT; simp
    rw [e, e] at h
    obtain ⟨g1, g2⟩ := P x y (hx x List.mem_cons_self) (hy y List.mem_cons_self) _ _ (tlT_nd hf) (tlT_nd hg) (List.cons.inj (List.cons.inj h).2).2
    obtain ⟨g3, g4⟩ := tlT_split P hf hg (fun z hz => hx z (List.mem_cons_of_mem _ hz)) (fun z hz => hy z (List.mem_cons_of_mem _ hz)) g2
    exact ⟨by rw [g1, g3], g4⟩
theorem join_tail : ∀ (x : PyData) (xs : List PyData), joinL [44, 32] ((x :: xs).map sh) = sh x ++ (xs.map fun x => 44 :: 32 :: sh x).flatten
  | x, [] => by simp [joinL]
  | x, y :: r => by
    show sh x ++ ([44, 32] ++ joinL [44, 32] ((y :: r).map sh)) = _
    rw [join_tail y r]; simp
theorem sh_tup (ds : List PyData) : sh (.tuple ds) = 40 :: (joinL [44, 32] (ds.map sh) ++ if ds.length = 1 then [44, 41] else [41]) := by
  unfold sh
  rw [PyData.shown, shownAll_map]
  unfold tupleText
  rw [tl_append, tl_append, tl_join, List.map_map, List.length_map]
  have e1 : tl ("(" : Str) = [40] := by rfl
  have e2 : tl (", " : Str) = [44, 32] := by rfl
  rw [e1, e2, List.append_assoc]
  show 40 :: (joinL [44, 32] (ds.map sh) ++ _) = _
  congr 2
  by_cases c : ds.length = 1
  · rw [if_pos c, if_pos (by rw [c]; rfl)]; rfl
  · rw [if_neg c, if_neg (by simpa using c)]; rfl
theorem pf_tup {S : PyData → Prop} (P : Pf S) (h41 : ∀ x, S x → ∀ r, sh x ≠ 41 :: r) (hne : ∀ x, S x → sh x ≠ []) : Pf (fun d => ∃ ds, d = .tuple ds ∧ ∀ x ∈ ds, S x) := by
  rintro _ _ ⟨xs, rfl, hx⟩ ⟨ys, rfl, hy⟩ s t hs ht h
  rw [sh_tup, sh_tup, List.cons_append, List.cons_append] at h
  have h2 := (List.cons.inj h).2
  have first : ∀ (y : PyData) (w : List Nat) (s : List Nat), S y → [41] ++ s ≠ sh y ++ w := fun y w s sy e => by
    cases e2 : sh y with
    | nil => exact hne y sy e2
    | cons c r =>
      rw [e2] at e
      have := (List.cons.inj e).1
      exact h41 y sy r (by rw [e2, ← this])
  have ff : ∀ n : Nat, (if n = 1 then [44, 41] else [41]) = [41] ∨ (if n = 1 then [44, 41] else [41]) = ([44, 41] : List Nat) := fun n => by
    by_cases c : n = 1
    · rw [if_pos c]; exact .inr rfl
    · rw [if_neg c]; exact .inl rfl
  cases xs with
  | nil =>
    cases ys with
    | nil => exact ⟨rfl, (List.cons.inj h2).2⟩
    | cons y ys =>
      rw [join_tail] at h2
      have h3 : [41] ++ s = sh y ++ (((ys.map fun x => 44 :: 32 :: sh x).flatten ++ (if (y :: ys).length = 1 then [44, 41] else [41])) ++ t) := by
        rw [← List.append_assoc, ← List.append_assoc]; exact h2
      exact absurd h3 (first y _ s (hy y List.mem_cons_self))
  | cons x xs =>
    cases ys with
    | nil =>
      rw [join_tail] at h2
      have h3 : [41] ++ t = sh x ++ (((xs.map fun x => 44 :: 32 :: sh x).flatten ++ (if (x :: xs).length = 1 then [44, 41] else [41])) ++ s) := by
        rw [← List.append_assoc, ← List.append_assoc]; exact h2.symm
      exact absurd h3 (first x _ t (hx x List.mem_cons_self))
    | cons y ys =>
      rw [join_tail, join_tail, List.append_assoc, List.append_assoc, List.append_assoc, List.append_assoc] at h2
      have e : ∀ (xs : List PyData) (f s : List Nat), (xs.map fun x => 44 :: 32 :: sh x).flatten ++ (f ++ s) = tlT xs f ++ s := fun xs f s => by
        unfold tlT; rw [List.append_assoc]
      rw [e, e] at h2
      obtain ⟨g1, g2⟩ := P x y (hx x List.mem_cons_self) (hy y List.mem_cons_self) _ _ (tlT_nd (ff _)) (tlT_nd (ff _)) h2
      obtain ⟨g3, g4⟩ := tlT_split P (ff _) (ff _) (fun z hz => hx z (List.mem_cons_of_mem _ hz)) (fun z hz => hy z (List.mem_cons_of_mem _ hz)) g2
      exact ⟨by rw [g1, g3], g4⟩
theorem nd_nil : nd [] := fun _ _ h => nomatch h
theorem pf_inj {S : PyData → Prop} (P : Pf S) {x y : PyData} (hx : S x) (hy : S y) (h : x.shown = y.shown) : x = y :=
  (P x y hx hy [] [] nd_nil nd_nil (by unfold sh; rw [h])).1
theorem sh_hd_tup (ds : List PyData) : (∀ r, sh (.tuple ds) ≠ 41 :: r) ∧ sh (.tuple ds) ≠ [] := by
  rw [sh_tup]
  exact ⟨fun r h => absurd (List.cons.inj h).1 (by omega), fun h => nomatch h⟩
theorem sh_hd_int (i : Int) : (∀ r, sh (.int i) ≠ 41 :: r) ∧ sh (.int i) ≠ [] := by
  cases i with
  | ofNat n =>
    obtain ⟨c, r, e, c1, c2⟩ := num_head (n := n)
    rw [Int.ofNat_eq_natCast, sh_nat, e]
    exact ⟨fun r h => by have := (List.cons.inj h).1; omega, fun h => nomatch h⟩
  | negSucc n =>
    rw [sh_neg]
    exact ⟨fun r h => absurd (List.cons.inj h).1 (by omega), fun h => nomatch h⟩
/-- ints, and tuples of what S has -/
theorem pf_or {S : PyData → Prop} (P : Pf S) (h41 : ∀ x, S x → ∀ r, sh x ≠ 41 :: r) (hne : ∀ x, S x → sh x ≠ []) : Pf (fun d => (∃ i, d = .int i) ∨ ∃ ds, d = .tuple ds ∧ ∀ x ∈ ds, S x) := by
  have it : ∀ (i : Int) (ds : List PyData) (s t : List Nat), sh (.int i) ++ s ≠ sh (.tuple ds) ++ t := fun i ds s t h => by
    rw [sh_tup, List.cons_append] at h
    cases i with
    | ofNat n =>
      obtain ⟨c, r, e, c1, c2⟩ := num_head (n := n)
      rw [Int.ofNat_eq_natCast, sh_nat, e, List.cons_append] at h
      have := (List.cons.inj h).1; omega
    | negSucc n =>
      rw [sh_neg, List.cons_append] at h
      have := (List.cons.inj h).1; omega
  rintro x y (hx | hx) (hy | hy) s t hs ht h
  · exact pf_int x y hx hy s t hs ht h
  · obtain ⟨i, rfl⟩ := hx
    obtain ⟨ds, rfl, _⟩ := hy
    exact absurd h (it i ds s t)
  · obtain ⟨i, rfl⟩ := hy
    obtain ⟨ds, rfl, _⟩ := hx
    exact absurd h.symm (it i ds t s)
  · exact pf_tup P h41 hne x y hx hy s t hs ht h
/-- nested so deep -/
def Nest : Nat → PyData → Prop
  | 0 => fun d => ∃ i, d = .int i
  | n + 1 => fun d => (∃ i, d = .int i) ∨ ∃ ds, d = .tuple ds ∧ ∀ x ∈ ds, Nest n x
theorem nest_hd : ∀ (n : Nat) (d : PyData), Nest n d → (∀ r, sh d ≠ 41 :: r) ∧ sh d ≠ []
  | 0, _, ⟨i, rfl⟩ => sh_hd_int i
  | _ + 1, _, .inl ⟨i, rfl⟩ => sh_hd_int i
  | _ + 1, _, .inr ⟨ds, rfl, _⟩ => sh_hd_tup ds
theorem pf_nest : ∀ n, Pf (Nest n)
  | 0 => pf_int
  | n + 1 => pf_or (pf_nest n) (fun x hx => (nest_hd n x hx).1) fun x hx => (nest_hd n x hx).2
theorem nest_amt (d : Int) (L : List (Int × Int)) : Nest 3 (amtD d L) := by
  refine .inr ⟨_, rfl, fun x hx => ?_⟩
  rcases List.mem_cons.mp hx with e | hx
  · exact .inl ⟨_, e⟩
  · refine .inr ⟨_, List.mem_singleton.mp hx, fun y hy => ?_⟩
    obtain ⟨q, _, rfl⟩ := List.mem_map.mp hy
    refine .inr ⟨_, rfl, fun z hz => ?_⟩
    rcases List.mem_cons.mp hz with e | hz
    · exact ⟨_, e⟩
    · exact ⟨_, List.mem_singleton.mp hz⟩
/-- unlike amounts are told by unlike texts -/
theorem amt_inj {d e : Int} {L M : List (Int × Int)} (h : (amtD d L).shown = (amtD e M).shown) : d = e ∧ L = M := by
  have := pf_inj (pf_nest 3) (nest_amt d L) (nest_amt e M) h
  unfold amtD at this
  obtain ⟨g1, g2⟩ := List.cons.inj (PyData.tuple.inj this)
  refine ⟨PyData.int.inj g1, ?_⟩
  have g3 := PyData.tuple.inj (List.cons.inj g2).1
  have inj : ∀ {L M : List (Int × Int)}, (L.map fun q => PyData.tuple [.int q.1, .int q.2]) = (M.map fun q => PyData.tuple [.int q.1, .int q.2]) → L = M := by
    intro L
    induction L with
    | nil =>
      intro M h
      cases M with
      | nil => rfl
      | cons => cases h
    | cons x r ih =>
      intro M h
      cases M with
      | nil => cases h
      | cons y r2 =>
        obtain ⟨k1, k2⟩ := List.cons.inj h
        have k3 := PyData.tuple.inj k1
        obtain ⟨k4, k5⟩ := List.cons.inj k3
        have k6 := PyData.int.inj k4
        have k7 := PyData.int.inj (List.cons.inj k5).1
        rw [ih k2]
        congr 1
        exact Prod.ext k6 k7
  exact inj g3
end Ly

/-! {k: v, ..} of seventeen pairs: stored one by one -/
namespace Ly
open PySem PySem.Spec PyProof.Rows L2
section
variable {prog : Program} {w : World} {A : Around} {E : Value → Shared → Prop} {s : Shared}
theorem gather17 (f : (Option (Sem Value) × Sem Value) → (Option Addr × List (Sem Value × Sem Value)) → Sem (ForInStep (Option Addr × List (Sem Value × Sem Value))))
    (hf : ∀ (p : Sem Value × Sem Value) (run : List (Sem Value × Sem Value)), run.length + 1 < 17 → f (some p.1, p.2) (none, run) = pure (.yield (none, run ++ [p])))
    {G : List (Sem Value × Sem Value) → Sem (Option Addr)} (hl : ∀ (p : Sem Value × Sem Value) (run : List (Sem Value × Sem Value)), run.length + 1 = 17 → f (some p.1, p.2) (none, run) = (G (run ++ [p]) >>= fun m => pure (.yield (m, [])))) :
    ∀ (items run : List (Sem Value × Sem Value)), items ≠ [] → run.length + items.length = 17 → forIn (items.map fun p => (some p.1, p.2)) ((none : Option Addr), run) f = (G (run ++ items) >>= fun m => pure (m, []))
  | [], _, h, _ => absurd rfl h
  | [p], run, _, h => by
    rw [List.map_cons, List.map_nil, List.forIn_cons, hl p run h, bind_assoc]
    congr 1
  | p :: q :: r, run, _, h => by
    rw [List.map_cons, List.forIn_cons, hf p run (by simp at h; omega), pure_bind]
    have := gather17 f hf hl (q :: r) (run ++ [p]) (by simp) (by simp at h ⊢; omega)
    simpa using this
theorem display17 (pairs : List (Sem Value × Sem Value)) (h : pairs.length = 17) :
    dictDisplay (pairs.map fun p => (some p.1, p.2)) = (do let d ← subDict pairs; pure (.ref d)) := by
  unfold dictDisplay
  dsimp only
  rw [gather17 (G := fun run => subDict run >>= fun d => pure (some d)) _ (fun p run h => by
    have hne : ((run ++ [(p.1, p.2)]).length == 17) = false := by simp; omega
    simp only [hne, Bool.false_eq_true, if_false]) (fun p run h => by
    have hne : ((run ++ [(p.1, p.2)]).length == 17) = true := by simp; omega
    have hem : (run ++ [(p.1, p.2)]).isEmpty = false := by simp
    simp [hne, hem]
    intro h2; omega) pairs [] (by rintro rfl; cases h) (by simpa using h)]
  simp
end
section
inductive PPq (X : Cx) (pos : Pos) : List (Option Expr) → List Expr → List (TE × TE) → Prop
  | nil : PPq X pos [] [] []
  | cons {k v : Expr} {ks : List (Option Expr)} {vs : List Expr} {tk tv : TE} {r : List (TE × TE)} : PE X k tk → PE X v tv → PPq X pos ks vs r → PPq X pos (some k :: ks) (v :: vs) ((tk, tv) :: r)
/-- the pairs of a long display, each put where the dict is -/
def tPutD : List (TE × TE) → Addr → L2.St → Hp → (Hp → Prop) → Prop
  | [], _, _, H, Q => Q H
  | (tk, tv) :: r, p, σ, H, Q => tk σ H fun x H1 => tv σ H1 fun y H2 => ∃ (kvs : List (Key × V)) (k : Key), H2 p = some (.dK kvs) ∧ x = kV k ∧ kvs.length < 1000 ∧ tPutD r p σ (upd H2 p (.dK (putK kvs k y))) Q
def tDispL (trs : List (TE × TE)) : TE := fun σ H Q => ∀ p, H p = none → tPutD trs p σ (upd H p (.dK [])) fun H2 => Q (.ref p) H2
variable {X : Cx} {pos : Pos}
theorem put_walk {pins : List (Addr × Obj)} {σ : L2.St} {p : Addr} : ∀ {keys : List (Option Expr)} {values : List Expr} {trs : List (TE × TE)} (h : PPq X pos keys values trs) {H : Hp} {s : Shared} {Q : Hp → Prop} {R : PUnit → Shared → Prop},
    Inv X pins σ H s → tPutD trs p σ H Q → (∀ s' H', Inv X pins σ H' s' → Q H' → R PUnit.unit s') →
    wpAny (model X.prog X.w) X.A (forIn (pairTrees keys values X.env pos) PUnit.unit fun (x : Sem Value × Sem Value) (_ : PUnit) => (do
      let kv ← x.1
      let vv ← holding [kv] x.2
      holding [kv, vv] (dictSet p kv vv)
      pure (ForInStep.yield PUnit.unit) : Sem (ForInStep PUnit))) R X.xe s
  | _, _, _, .nil, H, s, Q, R, I, q, hR => by
    show wpAny _ _ (forIn [] PUnit.unit _) _ _ _
    rw [List.forIn_nil]
    exact wpAny_pure (hR s H I q)
  | _, _, _, @PPq.cons _ _ k v ks vs tk tv r hk hv ht, H, s, Q, R, I, q, hR => by
    show wpAny _ _ (forIn ((eval k X.env, do let x ← eval v X.env; standAt pos; pure x) :: pairTrees ks vs X.env pos) PUnit.unit _) _ _ _
    rw [List.forIn_cons]
    refine wpAny_bind (wpAny_bind (thn (hk.run pins s σ H _ I q) fun u1 s1 ⟨x, H1, I1, r1, q1⟩ => ?_))
    refine wpAny_bind (wpAny_holding (wpAny_bind (thn (hv.run pins s1 σ H1 _ I1 q1) fun u2 s2 ⟨y, H2, I2, r2, q2⟩ => wpAny_bind (wpAny_standAt (wpAny_pure ?_)))))
    obtain ⟨kvs, kk, hd, ex, hl, q3⟩ := q2
    subst ex
    obtain ⟨z, hs, vs0, rel, dd⟩ := dk_of I2.hok hd
    have e1 := rel.length
    refine wpAny_bind (wpAny_holding (wpAny_dictSet_pairs (kV_is r1) dd (fun h' dd' sb => wpAny_pure ?_) (by rw [← e1]; exact z)))
    have he : ∃ q, h'.get? p = some q := let ⟨q, _, _, hq, _⟩ := dd'; ⟨q, hq⟩
    have hz : (putK kvs kk y).length ≤ sizeLine := by
      have := length_putK kvs kk y
      rw [sizeLine_eq]; omega
    exact put_walk ht (d_write I2 (by rw [hd]; exact True.intro) sb he (dk_new hz hs (rel.put kk r2) dd')) q3 hR
theorem pe_disp17 {keys : List (Option Expr)} {values : List Expr} {trs : List (TE × TE)} (h : PPq X pos keys values trs) (hall : keys.all (·.isSome) = true) (hl : keys.length = values.length) (h17 : keys.length = 17) : PE X (.Dict keys values pos) (tDispL trs) := by
  refine ⟨fun pins s σ H Q I q => ?_⟩
  have hn := pairTrees_length keys values X.env pos hall hl
  rw [arm_eval_Dict, zip_pairTrees keys values X.env pos hall hl, display17 _ (by rw [hn]; exact h17)]
  have nw := I.hok.fresh (Nat.le_refl s.heap.objs.size)
  have I1 := I.laid (a := s.heap.objs.size) (o := .dK []) (h' := s.heap.push { cls := .type "dict", data := .dict #[] }) (t' := s.toks) (fun _ _ q => Heap.get?_push_of_some _ q) (Nat.le_refl _) (dk_empty s.heap I.big)
  refine wpAny_bind (wpAny_standAt (wpAny_bind ?_))
  unfold subDict
  refine wpAny_bind (wpAny_alloc (wpAny_bind (wpAny_holding ?_)))
  rw [if_neg (by rw [hn, h17]; omega)]
  refine wpAny_bind (wpAny_rule ?_)
  refine wpAny_bind (put_walk h I1 (q _ nw) fun s' H' I' q' => ?_)
  exact wpAny_pure (wpAny_pure (wpAny_pure ⟨.ref s.heap.objs.size, H', I', rfl, q'⟩))
end
end Ly

namespace K07
open PySem PySem.Spec PyProof.Rows L2 Ly
def top (i : Nat) : Stmt := PySem.Challenge.pw_toldamounts_k07_signs_and_steps_of_amoun.main.body.getD i (.Pass ⟨0, 0, 0, 0⟩)
abbrev s_is_integer : Stmt := top 6
abbrev s_is_integer_in : Stmt := top 7
abbrev s_is_tuple_of : Stmt := top 8
abbrev s_is_ascending : Stmt := top 9
abbrev s_is_prime : Stmt := top 11
abbrev s_amount_from : Stmt := top 13
abbrev s_combined : Stmt := top 14
abbrev s_power : Stmt := top 15
abbrev s_products_of : Stmt := top 16
abbrev s_is_part : Stmt := top 20
abbrev s_is_amount : Stmt := top 21
abbrev s_require_amount : Stmt := top 22
abbrev s_require_number : Stmt := top 23
abbrev s_minus : Stmt := top 24
abbrev s_is_below : Stmt := top 25
abbrev s_sign_of : Stmt := top 26
abbrev s_steps_of : Stmt := top 27
abbrev s_greatest_power : Stmt := top 28
abbrev s_L_deck : Stmt := top 30
abbrev s_L_draw : Stmt := top 31
abbrev s_L_pick : Stmt := top 32
abbrev s_L_gcd : Stmt := top 33
abbrev s_L_power : Stmt := top 34
abbrev s_L_is_integer : Stmt := top 35
abbrev s_L_is_prime : Stmt := top 36
abbrev s_L_is_own_amount : Stmt := top 37
abbrev s_L_sides : Stmt := top 38
abbrev s_L_is_near_enough : Stmt := top 39
abbrev s_L_cost : Stmt := top 40
abbrev s_L_formed : Stmt := top 41
abbrev s_L_near : Stmt := top 42
abbrev s_L_told : Stmt := top 43
abbrev s_L_small : Stmt := top 44
abbrev s_L_order : Stmt := top 45
abbrev s_L_is_sign_right : Stmt := top 46
abbrev s_L_is_pair_right : Stmt := top 47
abbrev s_L_are_steps_right : Stmt := top 48
abbrev s_law : Stmt := top 49
def d_is_integer : He.DefD := Ly.dOf "is_integer" s_is_integer
def d_is_integer_in : He.DefD := Ly.dOf "is_integer_in" s_is_integer_in
def d_is_tuple_of : He.DefD := Ly.dOf "is_tuple_of" s_is_tuple_of
def d_is_ascending : He.DefD := Ly.dOf "is_ascending" s_is_ascending
def d_is_prime : He.DefD := Ly.dOf "is_prime" s_is_prime
def d_amount_from : He.DefD := Ly.dOf "amount_from" s_amount_from
def d_combined : He.DefD := Ly.dOf "combined" s_combined
def d_power : He.DefD := Ly.dOf "power" s_power
def d_products_of : He.DefD := Ly.dOf "products_of" s_products_of
def d_is_part : He.DefD := Ly.dOf "is_part" s_is_part
def d_is_amount : He.DefD := Ly.dOf "is_amount" s_is_amount
def d_require_amount : He.DefD := Ly.dOf "require_amount" s_require_amount
def d_require_number : He.DefD := Ly.dOf "require_number" s_require_number
def d_minus : He.DefD := Ly.dOf "minus" s_minus
def d_is_below : He.DefD := Ly.dOf "is_below" s_is_below
def d_sign_of : He.DefD := Ly.dOf "sign_of" s_sign_of
def d_steps_of : He.DefD := Ly.dOf "steps_of" s_steps_of
def d_greatest_power : He.DefD := Ly.dOf "greatest_power" s_greatest_power
def d_L_deck : He.DefD := Ly.dOf "_law_deck" s_L_deck
def d_L_draw : He.DefD := Ly.dOf "_law_draw" s_L_draw
def d_L_pick : He.DefD := Ly.dOf "_law_pick" s_L_pick
def d_L_gcd : He.DefD := Ly.dOf "_law_gcd" s_L_gcd
def d_L_power : He.DefD := Ly.dOf "_law_power" s_L_power
def d_L_is_integer : He.DefD := Ly.dOf "_law_is_integer" s_L_is_integer
def d_L_is_prime : He.DefD := Ly.dOf "_law_is_prime" s_L_is_prime
def d_L_is_own_amount : He.DefD := Ly.dOf "_law_is_own_amount" s_L_is_own_amount
def d_L_sides : He.DefD := Ly.dOf "_law_sides" s_L_sides
def d_L_is_near_enough : He.DefD := Ly.dOf "_law_is_near_enough" s_L_is_near_enough
def d_L_cost : He.DefD := Ly.dOf "_law_cost" s_L_cost
def d_L_formed : He.DefD := Ly.dOf "_law_formed" s_L_formed
def d_L_near : He.DefD := Ly.dOf "_law_near" s_L_near
def d_L_told : He.DefD := Ly.dOf "_law_told" s_L_told
def d_L_small : He.DefD := Ly.dOf "_law_small" s_L_small
def d_L_order : He.DefD := Ly.dOf "_law_order" s_L_order
def d_L_is_sign_right : He.DefD := Ly.dOf "_law_is_sign_right" s_L_is_sign_right
def d_L_is_pair_right : He.DefD := Ly.dOf "_law_is_pair_right" s_L_is_pair_right
def d_L_are_steps_right : He.DefD := Ly.dOf "_law_are_steps_right" s_L_are_steps_right
def d_law : He.DefD := Ly.dOf "law" s_law
def fn : List He.DefD := [d_is_integer, d_is_integer_in, d_is_tuple_of, d_is_ascending, d_is_prime, d_amount_from, d_combined, d_power, d_products_of, d_is_part, d_is_amount, d_require_amount, d_require_number, d_minus, d_is_below, d_sign_of, d_steps_of, d_greatest_power, d_L_deck, d_L_draw, d_L_pick, d_L_gcd, d_L_power, d_L_is_integer, d_L_is_prime, d_L_is_own_amount, d_L_sides, d_L_is_near_enough, d_L_cost, d_L_formed, d_L_near, d_L_told, d_L_small, d_L_order, d_L_is_sign_right, d_L_is_pair_right, d_L_are_steps_right, d_law]
def fa : List He.Fa := [.glo "is_integer", .glo "is_integer_in", .glo "is_tuple_of", .glo "is_ascending", .glo "is_prime", .glo "amount_from", .glo "combined", .glo "power", .glo "products_of", .glo "is_part", .glo "is_amount", .glo "require_amount", .glo "require_number", .glo "minus", .glo "is_below", .glo "sign_of", .glo "steps_of", .glo "greatest_power", .glo "_law_deck", .glo "_law_draw", .glo "_law_pick", .glo "_law_gcd", .glo "_law_power", .glo "_law_is_integer", .glo "_law_is_prime", .glo "_law_is_own_amount", .glo "_law_sides", .glo "_law_is_near_enough", .glo "_law_cost", .glo "_law_formed", .glo "_law_near", .glo "_law_told", .glo "_law_small", .glo "_law_order", .glo "_law_is_sign_right", .glo "_law_is_pair_right", .glo "_law_are_steps_right", .glo "law", .free "isinstance", .free "int", .free "bool", .free "tuple", .free "len", .free "all", .free "zip", .free "range", .free "sorted", .free "list", .free "max", .free "abs", .free "dict", .free "set", .free "sum", .free "repr", .int "ABOVE_PRIMES" 1000000, .int "MOST_K" 100]
def ex (K : PySem.W.Frag) : Bool := He.eqO (PySem.W.nsIn K mainGlobals "gcd") (some (some (.builtin "math.gcd"))) && He.eqO (PySem.W.nsIn K mainGlobals "isqrt") (some (some (.builtin "math.isqrt"))) && He.eqO (PySem.W.nsIn K mainGlobals "lcm") (some (some (.builtin "math.lcm")))
abbrev n_is_integer : List Str := ["thing"]
theorem sc_is_integer : FnScope n_is_integer ["thing"] (defScope s_is_integer) := ⟨rfl, rfl, rfl, by decide +kernel, rfl, by decide +kernel, by decide +kernel⟩
abbrev n_is_integer_in : List Str := ["thing", "low", "high"]
theorem sc_is_integer_in : FnScope n_is_integer_in ["thing", "low", "high"] (defScope s_is_integer_in) := ⟨rfl, rfl, rfl, by decide +kernel, rfl, by decide +kernel, by decide +kernel⟩
abbrev n_is_tuple_of : List Str := ["thing", "size"]
theorem sc_is_tuple_of : FnScope n_is_tuple_of ["thing", "size"] (defScope s_is_tuple_of) := ⟨rfl, rfl, rfl, by decide +kernel, rfl, by decide +kernel, by decide +kernel⟩
abbrev n_is_ascending : List Str := ["items", "one", "other"]
theorem sc_is_ascending : FnScope n_is_ascending ["items"] (defScope s_is_ascending) := ⟨rfl, rfl, rfl, by decide +kernel, rfl, by decide +kernel, by decide +kernel⟩
abbrev n_is_prime : List Str := ["number", "divisor"]
theorem sc_is_prime : FnScope n_is_prime ["number"] (defScope s_is_prime) := ⟨rfl, rfl, rfl, by decide +kernel, rfl, by decide +kernel, by decide +kernel⟩
abbrev n_amount_from : List Str := ["bottom", "powers", "divisor", "factor", "parts", "prime"]
theorem sc_amount_from : FnScope n_amount_from ["bottom", "powers"] (defScope s_amount_from) := ⟨rfl, rfl, rfl, by decide +kernel, rfl, by decide +kernel, by decide +kernel⟩
abbrev n_combined : List Str := ["pairs", "bottom", "_", "amount", "powers", "factor", "stretch", "prime", "many"]
theorem sc_combined : FnScope n_combined ["pairs"] (defScope s_combined) := ⟨rfl, rfl, rfl, by decide +kernel, rfl, by decide +kernel, by decide +kernel⟩
abbrev n_power : List Str := ["base", "exponent", "result"]
theorem sc_power : FnScope n_power ["base", "exponent"] (defScope s_power) := ⟨rfl, rfl, rfl, by decide +kernel, rfl, by decide +kernel, by decide +kernel⟩
abbrev n_products_of : List Str := ["parts", "k", "above", "below", "prime", "factor"]
theorem sc_products_of : FnScope n_products_of ["parts", "k"] (defScope s_products_of) := ⟨rfl, rfl, rfl, by decide +kernel, rfl, by decide +kernel, by decide +kernel⟩
abbrev n_is_part : List Str := ["thing"]
theorem sc_is_part : FnScope n_is_part ["thing"] (defScope s_is_part) := ⟨rfl, rfl, rfl, by decide +kernel, rfl, by decide +kernel, by decide +kernel⟩
abbrev n_is_amount : List Str := ["thing", "bottom", "parts", "part", "divisor"]
theorem sc_is_amount : FnScope n_is_amount ["thing"] (defScope s_is_amount) := ⟨rfl, rfl, rfl, by decide +kernel, rfl, by decide +kernel, by decide +kernel⟩
abbrev n_require_amount : List Str := ["thing"]
theorem sc_require_amount : FnScope n_require_amount ["thing"] (defScope s_require_amount) := ⟨rfl, rfl, rfl, by decide +kernel, rfl, by decide +kernel, by decide +kernel⟩
abbrev n_require_number : List Str := ["thing", "low", "high"]
theorem sc_require_number : FnScope n_require_number ["thing", "low", "high"] (defScope s_require_number) := ⟨rfl, rfl, rfl, by decide +kernel, rfl, by decide +kernel, by decide +kernel⟩
abbrev n_minus : List Str := ["one", "other"]
theorem sc_minus : FnScope n_minus ["one", "other"] (defScope s_minus) := ⟨rfl, rfl, rfl, by decide +kernel, rfl, by decide +kernel, by decide +kernel⟩
abbrev n_is_below : List Str := ["one", "other"]
theorem sc_is_below : FnScope n_is_below ["one", "other"] (defScope s_is_below) := ⟨rfl, rfl, rfl, by decide +kernel, rfl, by decide +kernel, by decide +kernel⟩
abbrev n_sign_of : List Str := ["amount", "above", "below"]
theorem sc_sign_of : FnScope n_sign_of ["amount"] (defScope s_sign_of) := ⟨rfl, rfl, rfl, by decide +kernel, rfl, by decide +kernel, by decide +kernel⟩
abbrev n_steps_of : List Str := ["amount", "k", "above", "below"]
theorem sc_steps_of : FnScope n_steps_of ["amount", "k"] (defScope s_steps_of) := ⟨rfl, rfl, rfl, by decide +kernel, rfl, by decide +kernel, by decide +kernel⟩
abbrev n_greatest_power : List Str := ["above", "below", "guess", "fits"]
theorem sc_greatest_power : FnScope n_greatest_power ["above", "below"] (defScope s_greatest_power) := ⟨rfl, rfl, rfl, by decide +kernel, rfl, by decide +kernel, by decide +kernel⟩
abbrev n_L_deck : List Str := ["_law_script", "_law_mixed", "_law_cell"]
theorem sc_L_deck : FnScope n_L_deck ["_law_script"] (defScope s_L_deck) := ⟨rfl, rfl, rfl, by decide +kernel, rfl, by decide +kernel, by decide +kernel⟩
abbrev n_L_draw : List Str := ["_law_deck_here", "_law_many", "_law_number", "_law_cell"]
theorem sc_L_draw : FnScope n_L_draw ["_law_deck_here", "_law_many"] (defScope s_L_draw) := ⟨rfl, rfl, rfl, by decide +kernel, rfl, by decide +kernel, by decide +kernel⟩
abbrev n_L_pick : List Str := ["_law_deck_here", "_law_some"]
theorem sc_L_pick : FnScope n_L_pick ["_law_deck_here", "_law_some"] (defScope s_L_pick) := ⟨rfl, rfl, rfl, by decide +kernel, rfl, by decide +kernel, by decide +kernel⟩
abbrev n_L_gcd : List Str := ["_law_a", "_law_b", "_law_turn"]
theorem sc_L_gcd : FnScope n_L_gcd ["_law_a", "_law_b"] (defScope s_L_gcd) := ⟨rfl, rfl, rfl, by decide +kernel, rfl, by decide +kernel, by decide +kernel⟩
abbrev n_L_power : List Str := ["_law_base", "_law_exponent", "_law_found", "_law_left", "_law_turn"]
theorem sc_L_power : FnScope n_L_power ["_law_base", "_law_exponent"] (defScope s_L_power) := ⟨rfl, rfl, rfl, by decide +kernel, rfl, by decide +kernel, by decide +kernel⟩
abbrev n_L_is_integer : List Str := ["_law_thing"]
theorem sc_L_is_integer : FnScope n_L_is_integer ["_law_thing"] (defScope s_L_is_integer) := ⟨rfl, rfl, rfl, by decide +kernel, rfl, by decide +kernel, by decide +kernel⟩
abbrev n_L_is_prime : List Str := ["_law_p", "_law_q"]
theorem sc_L_is_prime : FnScope n_L_is_prime ["_law_p"] (defScope s_L_is_prime) := ⟨rfl, rfl, rfl, by decide +kernel, rfl, by decide +kernel, by decide +kernel⟩
abbrev n_L_is_own_amount : List Str := ["_law_thing", "_law_common", "_law_last", "_law_part"]
theorem sc_L_is_own_amount : FnScope n_L_is_own_amount ["_law_thing"] (defScope s_L_is_own_amount) := ⟨rfl, rfl, rfl, by decide +kernel, rfl, by decide +kernel, by decide +kernel⟩
abbrev n_L_sides : List Str := ["_law_amount", "_law_up", "_law_down", "_law_p", "_law_c"]
theorem sc_L_sides : FnScope n_L_sides ["_law_amount"] (defScope s_L_sides) := ⟨rfl, rfl, rfl, by decide +kernel, rfl, by decide +kernel, by decide +kernel⟩
abbrev n_L_is_near_enough : List Str := ["_law_one", "_law_other", "_law_bottom", "_law_near_here", "_law_far", "_law_cost_here", "_law_p"]
theorem sc_L_is_near_enough : FnScope n_L_is_near_enough ["_law_one", "_law_other"] (defScope s_L_is_near_enough) := ⟨rfl, rfl, rfl, by decide +kernel, rfl, by decide +kernel, by decide +kernel⟩
abbrev n_L_cost : List Str := ["_law_amount", "_law_p", "_law_c"]
theorem sc_L_cost : FnScope n_L_cost ["_law_amount"] (defScope s_L_cost) := ⟨rfl, rfl, rfl, by decide +kernel, rfl, by decide +kernel, by decide +kernel⟩
abbrev n_L_formed : List Str := ["_law_d", "_law_parts", "_law_common", "_law_p"]
theorem sc_L_formed : FnScope n_L_formed ["_law_d", "_law_parts"] (defScope s_L_formed) := ⟨rfl, rfl, rfl, by decide +kernel, rfl, by decide +kernel, by decide +kernel⟩
abbrev n_L_near : List Str := ["_law_deck_here", "_law_size", "_law_p", "_law_q", "_law_a", "_law_b", "_law_top", "_law_parts", "_law_r"]
theorem sc_L_near : FnScope n_L_near ["_law_deck_here", "_law_size"] (defScope s_L_near) := ⟨rfl, rfl, rfl, by decide +kernel, rfl, by decide +kernel, by decide +kernel⟩
abbrev n_L_told : List Str := ["_law_deck_here", "_law_twos", "_law_most", "_law_parts", "_law_p"]
theorem sc_L_told : FnScope n_L_told ["_law_deck_here", "_law_twos", "_law_most"] (defScope s_L_told) := ⟨rfl, rfl, rfl, by decide +kernel, rfl, by decide +kernel, by decide +kernel⟩
abbrev n_L_small : List Str := ["_law_deck_here", "_law_some", "_law_p"]
theorem sc_L_small : FnScope n_L_small ["_law_deck_here"] (defScope s_L_small) := ⟨rfl, rfl, rfl, by decide +kernel, rfl, by decide +kernel, by decide +kernel⟩
abbrev n_L_order : List Str := ["_law_amount", "_law_up", "_law_down"]
theorem sc_L_order : FnScope n_L_order ["_law_amount"] (defScope s_L_order) := ⟨rfl, rfl, rfl, by decide +kernel, rfl, by decide +kernel, by decide +kernel⟩
abbrev n_L_is_sign_right : List Str := ["_law_amount", "_law_due", "_law_turned", "_law_plain", "_law_nought", "_law_p", "_law_c"]
theorem sc_L_is_sign_right : FnScope n_L_is_sign_right ["_law_amount"] (defScope s_L_is_sign_right) := ⟨rfl, rfl, rfl, by decide +kernel, rfl, by decide +kernel, by decide +kernel⟩
abbrev n_L_is_pair_right : List Str := ["_law_one", "_law_other", "_law_a", "_law_b", "_law_c", "_law_d", "_law_left", "_law_right"]
theorem sc_L_is_pair_right : FnScope n_L_is_pair_right ["_law_one", "_law_other"] (defScope s_L_is_pair_right) := ⟨rfl, rfl, rfl, by decide +kernel, rfl, by decide +kernel, by decide +kernel⟩
abbrev n_L_are_steps_right : List Str := ["_law_amount", "_law_k", "_law_steps", "_law_up", "_law_down", "_law_turn", "_law_fits", "_law_left", "_law_right"]
theorem sc_L_are_steps_right : FnScope n_L_are_steps_right ["_law_amount", "_law_k"] (defScope s_L_are_steps_right) := ⟨rfl, rfl, rfl, by decide +kernel, rfl, by decide +kernel, by decide +kernel⟩
abbrev n_law : List Str := ["_law_script", "_law_deck_here", "_law_size", "_law_turn", "_law_amount", "_law_k", "_law_twos", "_law_some", "_law_one", "_law_other", "_law_near_here", "_law_far", "_law_twice"]
theorem sc_law : FnScope n_law ["_law_script"] (defScope s_law) := ⟨rfl, rfl, rfl, by decide +kernel, rfl, by decide +kernel, by decide +kernel⟩
/-- what the top has left -/
structure Tx (K : PySem.W.Frag) (mg : Str → Option Value) : Prop where
  says : He.SaysD fa fn K
  g_is_integer : mg "is_integer" = some (.ref (He.ga K "is_integer"))
  g_is_integer_in : mg "is_integer_in" = some (.ref (He.ga K "is_integer_in"))
  g_is_tuple_of : mg "is_tuple_of" = some (.ref (He.ga K "is_tuple_of"))
  g_is_ascending : mg "is_ascending" = some (.ref (He.ga K "is_ascending"))
  g_is_prime : mg "is_prime" = some (.ref (He.ga K "is_prime"))
  g_amount_from : mg "amount_from" = some (.ref (He.ga K "amount_from"))
  g_combined : mg "combined" = some (.ref (He.ga K "combined"))
  g_power : mg "power" = some (.ref (He.ga K "power"))
  g_products_of : mg "products_of" = some (.ref (He.ga K "products_of"))
  g_is_part : mg "is_part" = some (.ref (He.ga K "is_part"))
  g_is_amount : mg "is_amount" = some (.ref (He.ga K "is_amount"))
  g_require_amount : mg "require_amount" = some (.ref (He.ga K "require_amount"))
  g_require_number : mg "require_number" = some (.ref (He.ga K "require_number"))
  g_minus : mg "minus" = some (.ref (He.ga K "minus"))
  g_is_below : mg "is_below" = some (.ref (He.ga K "is_below"))
  g_sign_of : mg "sign_of" = some (.ref (He.ga K "sign_of"))
  g_steps_of : mg "steps_of" = some (.ref (He.ga K "steps_of"))
  g_greatest_power : mg "greatest_power" = some (.ref (He.ga K "greatest_power"))
  g_L_deck : mg "_law_deck" = some (.ref (He.ga K "_law_deck"))
  g_L_draw : mg "_law_draw" = some (.ref (He.ga K "_law_draw"))
  g_L_pick : mg "_law_pick" = some (.ref (He.ga K "_law_pick"))
  g_L_gcd : mg "_law_gcd" = some (.ref (He.ga K "_law_gcd"))
  g_L_power : mg "_law_power" = some (.ref (He.ga K "_law_power"))
  g_L_is_integer : mg "_law_is_integer" = some (.ref (He.ga K "_law_is_integer"))
  g_L_is_prime : mg "_law_is_prime" = some (.ref (He.ga K "_law_is_prime"))
  g_L_is_own_amount : mg "_law_is_own_amount" = some (.ref (He.ga K "_law_is_own_amount"))
  g_L_sides : mg "_law_sides" = some (.ref (He.ga K "_law_sides"))
  g_L_is_near_enough : mg "_law_is_near_enough" = some (.ref (He.ga K "_law_is_near_enough"))
  g_L_cost : mg "_law_cost" = some (.ref (He.ga K "_law_cost"))
  g_L_formed : mg "_law_formed" = some (.ref (He.ga K "_law_formed"))
  g_L_near : mg "_law_near" = some (.ref (He.ga K "_law_near"))
  g_L_told : mg "_law_told" = some (.ref (He.ga K "_law_told"))
  g_L_small : mg "_law_small" = some (.ref (He.ga K "_law_small"))
  g_L_order : mg "_law_order" = some (.ref (He.ga K "_law_order"))
  g_L_is_sign_right : mg "_law_is_sign_right" = some (.ref (He.ga K "_law_is_sign_right"))
  g_L_is_pair_right : mg "_law_is_pair_right" = some (.ref (He.ga K "_law_is_pair_right"))
  g_L_are_steps_right : mg "_law_are_steps_right" = some (.ref (He.ga K "_law_are_steps_right"))
  g_law : mg "law" = some (.ref (He.ga K "law"))
  f_isinstance : mg "isinstance" = none
  f_int : mg "int" = none
  f_bool : mg "bool" = none
  f_tuple : mg "tuple" = none
  f_len : mg "len" = none
  f_all : mg "all" = none
  f_zip : mg "zip" = none
  f_range : mg "range" = none
  f_sorted : mg "sorted" = none
  f_list : mg "list" = none
  f_max : mg "max" = none
  f_abs : mg "abs" = none
  f_dict : mg "dict" = none
  f_set : mg "set" = none
  f_sum : mg "sum" = none
  f_repr : mg "repr" = none
  i_ABOVE_PRIMES : ∃ t, mg "ABOVE_PRIMES" = some (.int 1000000 t)
  i_MOST_K : ∃ t, mg "MOST_K" = some (.int 100 t)
  b_gcd : mg "gcd" = some (.builtin "math.gcd")
  b_isqrt : mg "isqrt" = some (.builtin "math.isqrt")
  b_lcm : mg "lcm" = some (.builtin "math.lcm")
theorem Tx.mk_of {K : PySem.W.Frag} {h : Heap} {mg : Str → Option Value} {w : World} {hh : Heap} (X : K.In h) (G : h.Ns mainGlobals mg) (c : He.SaysX fa fn [] [] ex w hh K) : Tx K mg := by
  have s := Ly.saysD_of c
  have m := c.more
  unfold ex at m
  simp only [Bool.and_eq_true] at m
  exact ⟨s,
    He.glo_ok X G (s.fact 0 (f := .glo "is_integer") rfl),
    He.glo_ok X G (s.fact 1 (f := .glo "is_integer_in") rfl),
    He.glo_ok X G (s.fact 2 (f := .glo "is_tuple_of") rfl),
    He.glo_ok X G (s.fact 3 (f := .glo "is_ascending") rfl),
    He.glo_ok X G (s.fact 4 (f := .glo "is_prime") rfl),
    He.glo_ok X G (s.fact 5 (f := .glo "amount_from") rfl),
    He.glo_ok X G (s.fact 6 (f := .glo "combined") rfl),
    He.glo_ok X G (s.fact 7 (f := .glo "power") rfl),
    He.glo_ok X G (s.fact 8 (f := .glo "products_of") rfl),
    He.glo_ok X G (s.fact 9 (f := .glo "is_part") rfl),
    He.glo_ok X G (s.fact 10 (f := .glo "is_amount") rfl),
    He.glo_ok X G (s.fact 11 (f := .glo "require_amount") rfl),
    He.glo_ok X G (s.fact 12 (f := .glo "require_number") rfl),
    He.glo_ok X G (s.fact 13 (f := .glo "minus") rfl),
    He.glo_ok X G (s.fact 14 (f := .glo "is_below") rfl),
    He.glo_ok X G (s.fact 15 (f := .glo "sign_of") rfl),
    He.glo_ok X G (s.fact 16 (f := .glo "steps_of") rfl),
    He.glo_ok X G (s.fact 17 (f := .glo "greatest_power") rfl),
    He.glo_ok X G (s.fact 18 (f := .glo "_law_deck") rfl),
    He.glo_ok X G (s.fact 19 (f := .glo "_law_draw") rfl),
    He.glo_ok X G (s.fact 20 (f := .glo "_law_pick") rfl),
    He.glo_ok X G (s.fact 21 (f := .glo "_law_gcd") rfl),
    He.glo_ok X G (s.fact 22 (f := .glo "_law_power") rfl),
    He.glo_ok X G (s.fact 23 (f := .glo "_law_is_integer") rfl),
    He.glo_ok X G (s.fact 24 (f := .glo "_law_is_prime") rfl),
    He.glo_ok X G (s.fact 25 (f := .glo "_law_is_own_amount") rfl),
    He.glo_ok X G (s.fact 26 (f := .glo "_law_sides") rfl),
    He.glo_ok X G (s.fact 27 (f := .glo "_law_is_near_enough") rfl),
    He.glo_ok X G (s.fact 28 (f := .glo "_law_cost") rfl),
    He.glo_ok X G (s.fact 29 (f := .glo "_law_formed") rfl),
    He.glo_ok X G (s.fact 30 (f := .glo "_law_near") rfl),
    He.glo_ok X G (s.fact 31 (f := .glo "_law_told") rfl),
    He.glo_ok X G (s.fact 32 (f := .glo "_law_small") rfl),
    He.glo_ok X G (s.fact 33 (f := .glo "_law_order") rfl),
    He.glo_ok X G (s.fact 34 (f := .glo "_law_is_sign_right") rfl),
    He.glo_ok X G (s.fact 35 (f := .glo "_law_is_pair_right") rfl),
    He.glo_ok X G (s.fact 36 (f := .glo "_law_are_steps_right") rfl),
    He.glo_ok X G (s.fact 37 (f := .glo "law") rfl),
    He.free_ok X G (s.fact 38 (f := .free "isinstance") rfl),
    He.free_ok X G (s.fact 39 (f := .free "int") rfl),
    He.free_ok X G (s.fact 40 (f := .free "bool") rfl),
    He.free_ok X G (s.fact 41 (f := .free "tuple") rfl),
    He.free_ok X G (s.fact 42 (f := .free "len") rfl),
    He.free_ok X G (s.fact 43 (f := .free "all") rfl),
    He.free_ok X G (s.fact 44 (f := .free "zip") rfl),
    He.free_ok X G (s.fact 45 (f := .free "range") rfl),
    He.free_ok X G (s.fact 46 (f := .free "sorted") rfl),
    He.free_ok X G (s.fact 47 (f := .free "list") rfl),
    He.free_ok X G (s.fact 48 (f := .free "max") rfl),
    He.free_ok X G (s.fact 49 (f := .free "abs") rfl),
    He.free_ok X G (s.fact 50 (f := .free "dict") rfl),
    He.free_ok X G (s.fact 51 (f := .free "set") rfl),
    He.free_ok X G (s.fact 52 (f := .free "sum") rfl),
    He.free_ok X G (s.fact 53 (f := .free "repr") rfl),
    He.int_ok X G (s.fact 54 (f := .int "ABOVE_PRIMES" 1000000) rfl),
    He.int_ok X G (s.fact 55 (f := .int "MOST_K" 100) rfl),
    PySem.W.mg_of X G (He.eqO_ok m.1.1),
    PySem.W.mg_of X G (He.eqO_ok m.1.2),
    PySem.W.mg_of X G (He.eqO_ok m.2)⟩
theorem fd_is_integer {K : PySem.W.Frag} {mg : Str → Option Value} (T : Tx K mg) : Ly.Def_ K mg "is_integer" s_is_integer ["thing"] := by
  obtain ⟨fd, F⟩ := T.says.def_ 0 (d := d_is_integer) rfl
  exact ⟨_, fd, F, FunD.bindsN F (ps := ["thing"]) (fun _ _ _ _ _ _ us hl => match us, hl with | [_], _ => rfl), FunD.bindsA F (ps := ["thing"]) (fun _ _ _ _ _ _ us hl => match us, hl with | [_], _ => rfl), T.g_is_integer⟩
theorem fd_is_integer_in {K : PySem.W.Frag} {mg : Str → Option Value} (T : Tx K mg) : Ly.Def_ K mg "is_integer_in" s_is_integer_in ["thing", "low", "high"] := by
  obtain ⟨fd, F⟩ := T.says.def_ 1 (d := d_is_integer_in) rfl
  exact ⟨_, fd, F, FunD.bindsN F (ps := ["thing", "low", "high"]) (fun _ _ _ _ _ _ us hl => match us, hl with | [_, _, _], _ => rfl), FunD.bindsA F (ps := ["thing", "low", "high"]) (fun _ _ _ _ _ _ us hl => match us, hl with | [_, _, _], _ => rfl), T.g_is_integer_in⟩
theorem fd_is_tuple_of {K : PySem.W.Frag} {mg : Str → Option Value} (T : Tx K mg) : Ly.Def_ K mg "is_tuple_of" s_is_tuple_of ["thing", "size"] := by
  obtain ⟨fd, F⟩ := T.says.def_ 2 (d := d_is_tuple_of) rfl
  exact ⟨_, fd, F, FunD.bindsN F (ps := ["thing", "size"]) (fun _ _ _ _ _ _ us hl => match us, hl with | [_, _], _ => rfl), FunD.bindsA F (ps := ["thing", "size"]) (fun _ _ _ _ _ _ us hl => match us, hl with | [_, _], _ => rfl), T.g_is_tuple_of⟩
theorem fd_is_ascending {K : PySem.W.Frag} {mg : Str → Option Value} (T : Tx K mg) : Ly.Def_ K mg "is_ascending" s_is_ascending ["items"] := by
  obtain ⟨fd, F⟩ := T.says.def_ 3 (d := d_is_ascending) rfl
  exact ⟨_, fd, F, FunD.bindsN F (ps := ["items"]) (fun _ _ _ _ _ _ us hl => match us, hl with | [_], _ => rfl), FunD.bindsA F (ps := ["items"]) (fun _ _ _ _ _ _ us hl => match us, hl with | [_], _ => rfl), T.g_is_ascending⟩
theorem fd_is_prime {K : PySem.W.Frag} {mg : Str → Option Value} (T : Tx K mg) : Ly.Def_ K mg "is_prime" s_is_prime ["number"] := by
  obtain ⟨fd, F⟩ := T.says.def_ 4 (d := d_is_prime) rfl
  exact ⟨_, fd, F, FunD.bindsN F (ps := ["number"]) (fun _ _ _ _ _ _ us hl => match us, hl with | [_], _ => rfl), FunD.bindsA F (ps := ["number"]) (fun _ _ _ _ _ _ us hl => match us, hl with | [_], _ => rfl), T.g_is_prime⟩
theorem fd_amount_from {K : PySem.W.Frag} {mg : Str → Option Value} (T : Tx K mg) : Ly.Def_ K mg "amount_from" s_amount_from ["bottom", "powers"] := by
  obtain ⟨fd, F⟩ := T.says.def_ 5 (d := d_amount_from) rfl
  exact ⟨_, fd, F, FunD.bindsN F (ps := ["bottom", "powers"]) (fun _ _ _ _ _ _ us hl => match us, hl with | [_, _], _ => rfl), FunD.bindsA F (ps := ["bottom", "powers"]) (fun _ _ _ _ _ _ us hl => match us, hl with | [_, _], _ => rfl), T.g_amount_from⟩
theorem fd_combined {K : PySem.W.Frag} {mg : Str → Option Value} (T : Tx K mg) : Ly.Def_ K mg "combined" s_combined ["pairs"] := by
  obtain ⟨fd, F⟩ := T.says.def_ 6 (d := d_combined) rfl
  exact ⟨_, fd, F, FunD.bindsN F (ps := ["pairs"]) (fun _ _ _ _ _ _ us hl => match us, hl with | [_], _ => rfl), FunD.bindsA F (ps := ["pairs"]) (fun _ _ _ _ _ _ us hl => match us, hl with | [_], _ => rfl), T.g_combined⟩
theorem fd_power {K : PySem.W.Frag} {mg : Str → Option Value} (T : Tx K mg) : Ly.Def_ K mg "power" s_power ["base", "exponent"] := by
  obtain ⟨fd, F⟩ := T.says.def_ 7 (d := d_power) rfl
  exact ⟨_, fd, F, FunD.bindsN F (ps := ["base", "exponent"]) (fun _ _ _ _ _ _ us hl => match us, hl with | [_, _], _ => rfl), FunD.bindsA F (ps := ["base", "exponent"]) (fun _ _ _ _ _ _ us hl => match us, hl with | [_, _], _ => rfl), T.g_power⟩
theorem fd_products_of {K : PySem.W.Frag} {mg : Str → Option Value} (T : Tx K mg) : Ly.Def_ K mg "products_of" s_products_of ["parts", "k"] := by
  obtain ⟨fd, F⟩ := T.says.def_ 8 (d := d_products_of) rfl
  exact ⟨_, fd, F, FunD.bindsN F (ps := ["parts", "k"]) (fun _ _ _ _ _ _ us hl => match us, hl with | [_, _], _ => rfl), FunD.bindsA F (ps := ["parts", "k"]) (fun _ _ _ _ _ _ us hl => match us, hl with | [_, _], _ => rfl), T.g_products_of⟩
theorem fd_is_part {K : PySem.W.Frag} {mg : Str → Option Value} (T : Tx K mg) : Ly.Def_ K mg "is_part" s_is_part ["thing"] := by
  obtain ⟨fd, F⟩ := T.says.def_ 9 (d := d_is_part) rfl
  exact ⟨_, fd, F, FunD.bindsN F (ps := ["thing"]) (fun _ _ _ _ _ _ us hl => match us, hl with | [_], _ => rfl), FunD.bindsA F (ps := ["thing"]) (fun _ _ _ _ _ _ us hl => match us, hl with | [_], _ => rfl), T.g_is_part⟩
theorem fd_is_amount {K : PySem.W.Frag} {mg : Str → Option Value} (T : Tx K mg) : Ly.Def_ K mg "is_amount" s_is_amount ["thing"] := by
  obtain ⟨fd, F⟩ := T.says.def_ 10 (d := d_is_amount) rfl
  exact ⟨_, fd, F, FunD.bindsN F (ps := ["thing"]) (fun _ _ _ _ _ _ us hl => match us, hl with | [_], _ => rfl), FunD.bindsA F (ps := ["thing"]) (fun _ _ _ _ _ _ us hl => match us, hl with | [_], _ => rfl), T.g_is_amount⟩
theorem fd_require_amount {K : PySem.W.Frag} {mg : Str → Option Value} (T : Tx K mg) : Ly.Def_ K mg "require_amount" s_require_amount ["thing"] := by
  obtain ⟨fd, F⟩ := T.says.def_ 11 (d := d_require_amount) rfl
  exact ⟨_, fd, F, FunD.bindsN F (ps := ["thing"]) (fun _ _ _ _ _ _ us hl => match us, hl with | [_], _ => rfl), FunD.bindsA F (ps := ["thing"]) (fun _ _ _ _ _ _ us hl => match us, hl with | [_], _ => rfl), T.g_require_amount⟩
theorem fd_require_number {K : PySem.W.Frag} {mg : Str → Option Value} (T : Tx K mg) : Ly.Def_ K mg "require_number" s_require_number ["thing", "low", "high"] := by
  obtain ⟨fd, F⟩ := T.says.def_ 12 (d := d_require_number) rfl
  exact ⟨_, fd, F, FunD.bindsN F (ps := ["thing", "low", "high"]) (fun _ _ _ _ _ _ us hl => match us, hl with | [_, _, _], _ => rfl), FunD.bindsA F (ps := ["thing", "low", "high"]) (fun _ _ _ _ _ _ us hl => match us, hl with | [_, _, _], _ => rfl), T.g_require_number⟩
theorem fd_minus {K : PySem.W.Frag} {mg : Str → Option Value} (T : Tx K mg) : Ly.Def_ K mg "minus" s_minus ["one", "other"] := by
  obtain ⟨fd, F⟩ := T.says.def_ 13 (d := d_minus) rfl
  exact ⟨_, fd, F, FunD.bindsN F (ps := ["one", "other"]) (fun _ _ _ _ _ _ us hl => match us, hl with | [_, _], _ => rfl), FunD.bindsA F (ps := ["one", "other"]) (fun _ _ _ _ _ _ us hl => match us, hl with | [_, _], _ => rfl), T.g_minus⟩
theorem fd_is_below {K : PySem.W.Frag} {mg : Str → Option Value} (T : Tx K mg) : Ly.Def_ K mg "is_below" s_is_below ["one", "other"] := by
  obtain ⟨fd, F⟩ := T.says.def_ 14 (d := d_is_below) rfl
  exact ⟨_, fd, F, FunD.bindsN F (ps := ["one", "other"]) (fun _ _ _ _ _ _ us hl => match us, hl with | [_, _], _ => rfl), FunD.bindsA F (ps := ["one", "other"]) (fun _ _ _ _ _ _ us hl => match us, hl with | [_, _], _ => rfl), T.g_is_below⟩
theorem fd_sign_of {K : PySem.W.Frag} {mg : Str → Option Value} (T : Tx K mg) : Ly.Def_ K mg "sign_of" s_sign_of ["amount"] := by
  obtain ⟨fd, F⟩ := T.says.def_ 15 (d := d_sign_of) rfl
  exact ⟨_, fd, F, FunD.bindsN F (ps := ["amount"]) (fun _ _ _ _ _ _ us hl => match us, hl with | [_], _ => rfl), FunD.bindsA F (ps := ["amount"]) (fun _ _ _ _ _ _ us hl => match us, hl with | [_], _ => rfl), T.g_sign_of⟩
theorem fd_steps_of {K : PySem.W.Frag} {mg : Str → Option Value} (T : Tx K mg) : Ly.Def_ K mg "steps_of" s_steps_of ["amount", "k"] := by
  obtain ⟨fd, F⟩ := T.says.def_ 16 (d := d_steps_of) rfl
  exact ⟨_, fd, F, FunD.bindsN F (ps := ["amount", "k"]) (fun _ _ _ _ _ _ us hl => match us, hl with | [_, _], _ => rfl), FunD.bindsA F (ps := ["amount", "k"]) (fun _ _ _ _ _ _ us hl => match us, hl with | [_, _], _ => rfl), T.g_steps_of⟩
theorem fd_greatest_power {K : PySem.W.Frag} {mg : Str → Option Value} (T : Tx K mg) : Ly.Def_ K mg "greatest_power" s_greatest_power ["above", "below"] := by
  obtain ⟨fd, F⟩ := T.says.def_ 17 (d := d_greatest_power) rfl
  exact ⟨_, fd, F, FunD.bindsN F (ps := ["above", "below"]) (fun _ _ _ _ _ _ us hl => match us, hl with | [_, _], _ => rfl), FunD.bindsA F (ps := ["above", "below"]) (fun _ _ _ _ _ _ us hl => match us, hl with | [_, _], _ => rfl), T.g_greatest_power⟩
theorem fd_L_deck {K : PySem.W.Frag} {mg : Str → Option Value} (T : Tx K mg) : Ly.Def_ K mg "_law_deck" s_L_deck ["_law_script"] := by
  obtain ⟨fd, F⟩ := T.says.def_ 18 (d := d_L_deck) rfl
  exact ⟨_, fd, F, FunD.bindsN F (ps := ["_law_script"]) (fun _ _ _ _ _ _ us hl => match us, hl with | [_], _ => rfl), FunD.bindsA F (ps := ["_law_script"]) (fun _ _ _ _ _ _ us hl => match us, hl with | [_], _ => rfl), T.g_L_deck⟩
theorem fd_L_draw {K : PySem.W.Frag} {mg : Str → Option Value} (T : Tx K mg) : Ly.Def_ K mg "_law_draw" s_L_draw ["_law_deck_here", "_law_many"] := by
  obtain ⟨fd, F⟩ := T.says.def_ 19 (d := d_L_draw) rfl
  exact ⟨_, fd, F, FunD.bindsN F (ps := ["_law_deck_here", "_law_many"]) (fun _ _ _ _ _ _ us hl => match us, hl with | [_, _], _ => rfl), FunD.bindsA F (ps := ["_law_deck_here", "_law_many"]) (fun _ _ _ _ _ _ us hl => match us, hl with | [_, _], _ => rfl), T.g_L_draw⟩
theorem fd_L_pick {K : PySem.W.Frag} {mg : Str → Option Value} (T : Tx K mg) : Ly.Def_ K mg "_law_pick" s_L_pick ["_law_deck_here", "_law_some"] := by
  obtain ⟨fd, F⟩ := T.says.def_ 20 (d := d_L_pick) rfl
  exact ⟨_, fd, F, FunD.bindsN F (ps := ["_law_deck_here", "_law_some"]) (fun _ _ _ _ _ _ us hl => match us, hl with | [_, _], _ => rfl), FunD.bindsA F (ps := ["_law_deck_here", "_law_some"]) (fun _ _ _ _ _ _ us hl => match us, hl with | [_, _], _ => rfl), T.g_L_pick⟩
theorem fd_L_gcd {K : PySem.W.Frag} {mg : Str → Option Value} (T : Tx K mg) : Ly.Def_ K mg "_law_gcd" s_L_gcd ["_law_a", "_law_b"] := by
  obtain ⟨fd, F⟩ := T.says.def_ 21 (d := d_L_gcd) rfl
  exact ⟨_, fd, F, FunD.bindsN F (ps := ["_law_a", "_law_b"]) (fun _ _ _ _ _ _ us hl => match us, hl with | [_, _], _ => rfl), FunD.bindsA F (ps := ["_law_a", "_law_b"]) (fun _ _ _ _ _ _ us hl => match us, hl with | [_, _], _ => rfl), T.g_L_gcd⟩
theorem fd_L_power {K : PySem.W.Frag} {mg : Str → Option Value} (T : Tx K mg) : Ly.Def_ K mg "_law_power" s_L_power ["_law_base", "_law_exponent"] := by
  obtain ⟨fd, F⟩ := T.says.def_ 22 (d := d_L_power) rfl
  exact ⟨_, fd, F, FunD.bindsN F (ps := ["_law_base", "_law_exponent"]) (fun _ _ _ _ _ _ us hl => match us, hl with | [_, _], _ => rfl), FunD.bindsA F (ps := ["_law_base", "_law_exponent"]) (fun _ _ _ _ _ _ us hl => match us, hl with | [_, _], _ => rfl), T.g_L_power⟩
theorem fd_L_is_integer {K : PySem.W.Frag} {mg : Str → Option Value} (T : Tx K mg) : Ly.Def_ K mg "_law_is_integer" s_L_is_integer ["_law_thing"] := by
  obtain ⟨fd, F⟩ := T.says.def_ 23 (d := d_L_is_integer) rfl
  exact ⟨_, fd, F, FunD.bindsN F (ps := ["_law_thing"]) (fun _ _ _ _ _ _ us hl => match us, hl with | [_], _ => rfl), FunD.bindsA F (ps := ["_law_thing"]) (fun _ _ _ _ _ _ us hl => match us, hl with | [_], _ => rfl), T.g_L_is_integer⟩
theorem fd_L_is_prime {K : PySem.W.Frag} {mg : Str → Option Value} (T : Tx K mg) : Ly.Def_ K mg "_law_is_prime" s_L_is_prime ["_law_p"] := by
  obtain ⟨fd, F⟩ := T.says.def_ 24 (d := d_L_is_prime) rfl
  exact ⟨_, fd, F, FunD.bindsN F (ps := ["_law_p"]) (fun _ _ _ _ _ _ us hl => match us, hl with | [_], _ => rfl), FunD.bindsA F (ps := ["_law_p"]) (fun _ _ _ _ _ _ us hl => match us, hl with | [_], _ => rfl), T.g_L_is_prime⟩
theorem fd_L_is_own_amount {K : PySem.W.Frag} {mg : Str → Option Value} (T : Tx K mg) : Ly.Def_ K mg "_law_is_own_amount" s_L_is_own_amount ["_law_thing"] := by
  obtain ⟨fd, F⟩ := T.says.def_ 25 (d := d_L_is_own_amount) rfl
  exact ⟨_, fd, F, FunD.bindsN F (ps := ["_law_thing"]) (fun _ _ _ _ _ _ us hl => match us, hl with | [_], _ => rfl), FunD.bindsA F (ps := ["_law_thing"]) (fun _ _ _ _ _ _ us hl => match us, hl with | [_], _ => rfl), T.g_L_is_own_amount⟩
theorem fd_L_sides {K : PySem.W.Frag} {mg : Str → Option Value} (T : Tx K mg) : Ly.Def_ K mg "_law_sides" s_L_sides ["_law_amount"] := by
  obtain ⟨fd, F⟩ := T.says.def_ 26 (d := d_L_sides) rfl
  exact ⟨_, fd, F, FunD.bindsN F (ps := ["_law_amount"]) (fun _ _ _ _ _ _ us hl => match us, hl with | [_], _ => rfl), FunD.bindsA F (ps := ["_law_amount"]) (fun _ _ _ _ _ _ us hl => match us, hl with | [_], _ => rfl), T.g_L_sides⟩
theorem fd_L_is_near_enough {K : PySem.W.Frag} {mg : Str → Option Value} (T : Tx K mg) : Ly.Def_ K mg "_law_is_near_enough" s_L_is_near_enough ["_law_one", "_law_other"] := by
  obtain ⟨fd, F⟩ := T.says.def_ 27 (d := d_L_is_near_enough) rfl
  exact ⟨_, fd, F, FunD.bindsN F (ps := ["_law_one", "_law_other"]) (fun _ _ _ _ _ _ us hl => match us, hl with | [_, _], _ => rfl), FunD.bindsA F (ps := ["_law_one", "_law_other"]) (fun _ _ _ _ _ _ us hl => match us, hl with | [_, _], _ => rfl), T.g_L_is_near_enough⟩
theorem fd_L_cost {K : PySem.W.Frag} {mg : Str → Option Value} (T : Tx K mg) : Ly.Def_ K mg "_law_cost" s_L_cost ["_law_amount"] := by
  obtain ⟨fd, F⟩ := T.says.def_ 28 (d := d_L_cost) rfl
  exact ⟨_, fd, F, FunD.bindsN F (ps := ["_law_amount"]) (fun _ _ _ _ _ _ us hl => match us, hl with | [_], _ => rfl), FunD.bindsA F (ps := ["_law_amount"]) (fun _ _ _ _ _ _ us hl => match us, hl with | [_], _ => rfl), T.g_L_cost⟩
theorem fd_L_formed {K : PySem.W.Frag} {mg : Str → Option Value} (T : Tx K mg) : Ly.Def_ K mg "_law_formed" s_L_formed ["_law_d", "_law_parts"] := by
  obtain ⟨fd, F⟩ := T.says.def_ 29 (d := d_L_formed) rfl
  exact ⟨_, fd, F, FunD.bindsN F (ps := ["_law_d", "_law_parts"]) (fun _ _ _ _ _ _ us hl => match us, hl with | [_, _], _ => rfl), FunD.bindsA F (ps := ["_law_d", "_law_parts"]) (fun _ _ _ _ _ _ us hl => match us, hl with | [_, _], _ => rfl), T.g_L_formed⟩
theorem fd_L_near {K : PySem.W.Frag} {mg : Str → Option Value} (T : Tx K mg) : Ly.Def_ K mg "_law_near" s_L_near ["_law_deck_here", "_law_size"] := by
  obtain ⟨fd, F⟩ := T.says.def_ 30 (d := d_L_near) rfl
  exact ⟨_, fd, F, FunD.bindsN F (ps := ["_law_deck_here", "_law_size"]) (fun _ _ _ _ _ _ us hl => match us, hl with | [_, _], _ => rfl), FunD.bindsA F (ps := ["_law_deck_here", "_law_size"]) (fun _ _ _ _ _ _ us hl => match us, hl with | [_, _], _ => rfl), T.g_L_near⟩
theorem fd_L_told {K : PySem.W.Frag} {mg : Str → Option Value} (T : Tx K mg) : Ly.Def_ K mg "_law_told" s_L_told ["_law_deck_here", "_law_twos", "_law_most"] := by
  obtain ⟨fd, F⟩ := T.says.def_ 31 (d := d_L_told) rfl
  exact ⟨_, fd, F, FunD.bindsN F (ps := ["_law_deck_here", "_law_twos", "_law_most"]) (fun _ _ _ _ _ _ us hl => match us, hl with | [_, _, _], _ => rfl), FunD.bindsA F (ps := ["_law_deck_here", "_law_twos", "_law_most"]) (fun _ _ _ _ _ _ us hl => match us, hl with | [_, _, _], _ => rfl), T.g_L_told⟩
theorem fd_L_small {K : PySem.W.Frag} {mg : Str → Option Value} (T : Tx K mg) : Ly.Def_ K mg "_law_small" s_L_small ["_law_deck_here"] := by
  obtain ⟨fd, F⟩ := T.says.def_ 32 (d := d_L_small) rfl
  exact ⟨_, fd, F, FunD.bindsN F (ps := ["_law_deck_here"]) (fun _ _ _ _ _ _ us hl => match us, hl with | [_], _ => rfl), FunD.bindsA F (ps := ["_law_deck_here"]) (fun _ _ _ _ _ _ us hl => match us, hl with | [_], _ => rfl), T.g_L_small⟩
theorem fd_L_order {K : PySem.W.Frag} {mg : Str → Option Value} (T : Tx K mg) : Ly.Def_ K mg "_law_order" s_L_order ["_law_amount"] := by
  obtain ⟨fd, F⟩ := T.says.def_ 33 (d := d_L_order) rfl
  exact ⟨_, fd, F, FunD.bindsN F (ps := ["_law_amount"]) (fun _ _ _ _ _ _ us hl => match us, hl with | [_], _ => rfl), FunD.bindsA F (ps := ["_law_amount"]) (fun _ _ _ _ _ _ us hl => match us, hl with | [_], _ => rfl), T.g_L_order⟩
theorem fd_L_is_sign_right {K : PySem.W.Frag} {mg : Str → Option Value} (T : Tx K mg) : Ly.Def_ K mg "_law_is_sign_right" s_L_is_sign_right ["_law_amount"] := by
  obtain ⟨fd, F⟩ := T.says.def_ 34 (d := d_L_is_sign_right) rfl
  exact ⟨_, fd, F, FunD.bindsN F (ps := ["_law_amount"]) (fun _ _ _ _ _ _ us hl => match us, hl with | [_], _ => rfl), FunD.bindsA F (ps := ["_law_amount"]) (fun _ _ _ _ _ _ us hl => match us, hl with | [_], _ => rfl), T.g_L_is_sign_right⟩
theorem fd_L_is_pair_right {K : PySem.W.Frag} {mg : Str → Option Value} (T : Tx K mg) : Ly.Def_ K mg "_law_is_pair_right" s_L_is_pair_right ["_law_one", "_law_other"] := by
  obtain ⟨fd, F⟩ := T.says.def_ 35 (d := d_L_is_pair_right) rfl
  exact ⟨_, fd, F, FunD.bindsN F (ps := ["_law_one", "_law_other"]) (fun _ _ _ _ _ _ us hl => match us, hl with | [_, _], _ => rfl), FunD.bindsA F (ps := ["_law_one", "_law_other"]) (fun _ _ _ _ _ _ us hl => match us, hl with | [_, _], _ => rfl), T.g_L_is_pair_right⟩
theorem fd_L_are_steps_right {K : PySem.W.Frag} {mg : Str → Option Value} (T : Tx K mg) : Ly.Def_ K mg "_law_are_steps_right" s_L_are_steps_right ["_law_amount", "_law_k"] := by
  obtain ⟨fd, F⟩ := T.says.def_ 36 (d := d_L_are_steps_right) rfl
  exact ⟨_, fd, F, FunD.bindsN F (ps := ["_law_amount", "_law_k"]) (fun _ _ _ _ _ _ us hl => match us, hl with | [_, _], _ => rfl), FunD.bindsA F (ps := ["_law_amount", "_law_k"]) (fun _ _ _ _ _ _ us hl => match us, hl with | [_, _], _ => rfl), T.g_L_are_steps_right⟩
theorem fd_law {K : PySem.W.Frag} {mg : Str → Option Value} (T : Tx K mg) : Ly.Def_ K mg "law" s_law ["_law_script"] := by
  obtain ⟨fd, F⟩ := T.says.def_ 37 (d := d_law) rfl
  exact ⟨_, fd, F, FunD.bindsN F (ps := ["_law_script"]) (fun _ _ _ _ _ _ us hl => match us, hl with | [_], _ => rfl), FunD.bindsA F (ps := ["_law_script"]) (fun _ _ _ _ _ _ us hl => match us, hl with | [_], _ => rfl), T.g_law⟩
end K07

namespace K07
open PySem PySem.Spec PyProof.Rows L2 Ly
section
variable {P : Program} {w : World} {K : PySem.W.Frag} {mg : Str → Option Value} {base : Heap}
/-! power -/
theorem pow_bits {b : Int} {n : Nat} (h : b.natAbs < 2 ^ n) (j : Nat) : (b ^ j).natAbs < 2 ^ (n * j + 1) := by
  rw [Int.natAbs_pow, Nat.pow_succ, Nat.pow_mul]
  have h2 : b.natAbs ^ j ≤ (2 ^ n) ^ j := Nat.pow_le_pow_left (Nat.le_of_lt h) j
  have h3 : 0 < (2 ^ n) ^ j := Nat.pow_pos (Nat.two_pow_pos n)
  omega
def spPower : Sp := fun vs H Q _ => ∃ (b : Int) (e n : Nat), vs = [.int b, .int e] ∧ b.natAbs < 2 ^ n ∧ n * (2 * e) ≤ 400000 ∧ Q (.int (b ^ e)) H
theorem ca_power (T : Tx K mg) : Ca P w K mg base 1 "power" s_power ["base", "exponent"] spPower := by
  refine Ca.of (fd_power T) sc_power ?_ ?_
  · rintro vs H Q E ⟨b, e, n, rfl, _⟩; rfl
  · rintro f cdv A out s H vs Q E hr ⟨b, e, n, rfl, hb, hn, q⟩
    refine ⟨_, pss_cons (ps_set (i := 2) sc_power.nd rfl (.inl rfl) pe_int)
      (pss_cons (ps_while PassesOwn.never (pt_cmpR op_gt (pv 1) pe_int (nomark _))
        (pss_cons (ps_if (pt_cmpR op_eq (pe_op op_mod (pv 1) pe_int) pe_int (nomark _))
            (pss_one (ps_set (i := 2) sc_power.nd rfl (.inl rfl) (pe_op op_mulW (pv 2) (pv 0)))) pss_nil)
        (pss_cons (ps_set (i := 0) sc_power.nd rfl (.inl rfl) (pe_op op_mulW (pv 0) (pv 0)))
        (pss_one (ps_set (i := 1) sc_power.nd rfl (.inl rfl) (pe_op op_fdiv (pv 1) pe_int))))))
      (pss_one (ps_ret (pv 2)))), ?_⟩
    refine while_by (fun σ H' => ∃ (m x : Nat), σ = [some (.int (b ^ m)), some (.int x), some (.int (b ^ (e - m * x)))] ∧ m * x ≤ e ∧ (x ≠ 0 → 0 < m) ∧ H' = H)
      (fun σ _ => match σ with | [_, some (.int x), _] => x.toNat | _ => 0) ?_ ?_ ?_
    · refine ⟨1, e, ?_, by omega, fun _ => Nat.one_pos, rfl⟩
      show [some (V.int b), some (V.int e), some (V.int 1)] = _
      rw [Int.pow_succ, Int.pow_zero, Int.one_mul, Nat.one_mul, Nat.sub_self, Int.pow_zero]
    · rintro σ H' ⟨m, x, rfl, hm, hx, rfl⟩
      refine ⟨_, rfl, _, _, rfl, rfl, _, rfl, ite2 (fun c => ?_) (fun c => ?_)⟩
      · have hx1 : x ≠ 0 := by have := of_decide_eq_true c; omega
        have hm1 := hx hx1
        have hmx : m ≤ m * x := Nat.le_mul_of_pos_right m (Nat.pos_of_ne_zero hx1)
        have szm : n * m + 1 ≤ 400001 := by
          have : n * m ≤ n * (2 * e) := Nat.mul_le_mul_left n (by omega)
          omega
        have szr : n * (e - m * x) + 1 ≤ 400001 := by
          have : n * (e - m * x) ≤ n * (2 * e) := Nat.mul_le_mul_left n (by omega)
          omega
        have half : (x : Int) / 2 = ((x / 2 : Nat) : Int) := by omega
        have sq : b ^ m * b ^ m = b ^ (2 * m) := by rw [← Int.pow_add, Nat.two_mul]
        have next : ∀ r : Int, r = b ^ (e - 2 * m * (x / 2)) →
            ∃ (m' x' : Nat), [some (V.int (b ^ m * b ^ m)), some (V.int ((x : Int) / 2)), some (V.int r)] = [some (.int (b ^ m')), some (.int x'), some (.int (b ^ (e - m' * x')))] ∧ m' * x' ≤ e ∧ (x' ≠ 0 → 0 < m') ∧ H' = H' := by
          intro r hr
          refine ⟨2 * m, x / 2, by rw [sq, half, hr], ?_, fun _ => by omega, rfl⟩
          have : 2 * m * (x / 2) ≤ m * x := by
            have h2 : 2 * (x / 2) ≤ x := Nat.mul_div_le x 2
            calc 2 * m * (x / 2) = m * (2 * (x / 2)) := by rw [Nat.mul_comm 2 m, Nat.mul_assoc]
              _ ≤ m * x := Nat.mul_le_mul_left m h2
          omega
        have meas : ((x : Int) / 2).toNat < ((x : Int)).toNat := by omega
        refine ⟨_, rfl, _, _, rfl, rfl, (by show (0 : Int) < 2; decide), rfl, _, rfl, ite2 (fun c => ?_) (fun c => ?_)⟩
        · have odd : x % 2 = 1 := by
            have := V.int.inj (of_decide_eq_true c)
            omega
          refine ⟨_, rfl, _, rfl, _, _, rfl, rfl, wide_mul (pow_bits hb _) (pow_bits hb _) (by omega) (by omega) (by omega), ?_⟩
          refine ⟨_, rfl, _, rfl, _, _, rfl, rfl, wide_mul (pow_bits hb _) (pow_bits hb _) (by omega) (by omega) (by omega), ?_⟩
          refine ⟨_, rfl, _, _, rfl, rfl, ⟨by decide, by decide⟩, next _ ?_, meas⟩
          rw [← Int.pow_add]
          congr 1
          have : m * x = 2 * m * (x / 2) + m := by
            have h3 : x = 2 * (x / 2) + 1 := by omega
            calc m * x = m * (2 * (x / 2) + 1) := by rw [← h3]
              _ = 2 * m * (x / 2) + m := by rw [Nat.mul_add, Nat.mul_one, ← Nat.mul_assoc, Nat.mul_comm m 2]
          omega
        · have even : x % 2 = 0 := by
            have : ¬ (V.int ((x : Int) % 2) = V.int 1) := fun z => c (decide_eq_true z)
            have : ¬ ((x : Int) % 2 = 1) := fun z => this (by rw [z])
            omega
          refine ⟨_, rfl, _, rfl, _, _, rfl, rfl, wide_mul (pow_bits hb _) (pow_bits hb _) (by omega) (by omega) (by omega), ?_⟩
          refine ⟨_, rfl, _, _, rfl, rfl, ⟨by decide, by decide⟩, next _ ?_, meas⟩
          congr 1
          have : m * x = 2 * m * (x / 2) := by
            have h3 : x = 2 * (x / 2) := by omega
            calc m * x = m * (2 * (x / 2)) := by rw [← h3]
              _ = 2 * m * (x / 2) := by rw [← Nat.mul_assoc, Nat.mul_comm m 2]
          omega
      · have hx0 : x = 0 := by
          have : ¬ ((0 : Int) < x) := fun z => c (decide_eq_true z)
          omega
        subst hx0
        exact ⟨_, rfl, q⟩
    · rintro σ H1 Q1 Q2 h ⟨v, e1, i, j, e2, e3, z, e4, e5⟩
      exact ⟨v, e1, i, j, e2, e3, z, e4, h _ _ e5⟩
end
end K07

namespace K07
open PySem PySem.Spec PyProof.Rows L2 Ly
section
variable {P : Program} {w : World} {K : PySem.W.Frag} {mg : Str → Option Value} {base : Heap}
/-! kinds -/
def spIsInteger (K : PySem.W.Frag) : Sp := fun vs H Q _ => ∃ (v : V) (n : String) (b1 b2 : Bool), vs = [v] ∧ TyX K H v (.type n) ∧ kitB n "int" = some b1 ∧ kitB n "bool" = some b2 ∧ Q (.bl (b1 && !b2)) H
theorem ca_is_integer (T : Tx K mg) : Ca P w K mg base 1 "is_integer" s_is_integer ["thing"] (spIsInteger K) := by
  refine Ca.of (fd_is_integer T) sc_is_integer ?_ ?_
  · rintro vs H Q E ⟨v, n, b1, b2, rfl, _⟩; rfl
  · rintro f cdv A out s H vs Q E hr ⟨v, n, b1, b2, rfl, ty, k1, k2, q⟩
    refine ⟨_, (pss_one (ps_ret (pe_and (pe_callB call_isi (by rfl) T.f_isinstance (by decide +kernel) (pa_cons (pv 0) (pa_cons (pe_bltn (v := .ty "int") (by rfl) T.f_int (by decide +kernel) rfl) pa_nil))) (pe_one (pe_not (pe_callB call_isi (by rfl) T.f_isinstance (by decide +kernel) (pa_cons (pv 0) (pa_cons (pe_bltn (v := .ty "bool") (by rfl) T.f_bool (by decide +kernel) rfl) pa_nil)))))))), ?_⟩
    refine ⟨v, rfl, v, .ty "int", _, _, b1, rfl, .ty "int", ty, kit_ty k1, b1, rfl, ?_⟩
    cases b1 with
    | false => exact iteF (by simpa using q)
    | true => exact iteT ⟨v, rfl, v, .ty "bool", _, _, b2, rfl, .ty "bool", ty, kit_ty k2, b2, rfl, by simpa using q⟩
theorem ca_L_is_integer (T : Tx K mg) : Ca P w K mg base 1 "_law_is_integer" s_L_is_integer ["_law_thing"] (spIsInteger K) := by
  refine Ca.of (fd_L_is_integer T) sc_L_is_integer ?_ ?_
  · rintro vs H Q E ⟨v, n, b1, b2, rfl, _⟩; rfl
  · rintro f cdv A out s H vs Q E hr ⟨v, n, b1, b2, rfl, ty, k1, k2, q⟩
    refine ⟨_, (pss_one (ps_ret (pe_and (pe_callB call_isi (by rfl) T.f_isinstance (by decide +kernel) (pa_cons (pv 0) (pa_cons (pe_bltn (v := .ty "int") (by rfl) T.f_int (by decide +kernel) rfl) pa_nil))) (pe_one (pe_not (pe_callB call_isi (by rfl) T.f_isinstance (by decide +kernel) (pa_cons (pv 0) (pa_cons (pe_bltn (v := .ty "bool") (by rfl) T.f_bool (by decide +kernel) rfl) pa_nil)))))))), ?_⟩
    refine ⟨v, rfl, v, .ty "int", _, _, b1, rfl, .ty "int", ty, kit_ty k1, b1, rfl, ?_⟩
    cases b1 with
    | false => exact iteF (by simpa using q)
    | true => exact iteT ⟨v, rfl, v, .ty "bool", _, _, b2, rfl, .ty "bool", ty, kit_ty k2, b2, rfl, by simpa using q⟩
local macro_rules | `(tactic| walk_at "isint") => `(tactic| refine ⟨_, "int", true, false, rfl, tyx_int, by decide +kernel, by decide +kernel, ?_⟩)
/-- of an int alone -/
def spIntIn : Sp := fun vs H Q _ => ∃ (i lo hi : Int), vs = [.int i, .int lo, .int hi] ∧ Q (.bl (decide (lo ≤ i ∧ i ≤ hi))) H
theorem ca_is_integer_in (T : Tx K mg) : Ca P w K mg base 2 "is_integer_in" s_is_integer_in ["thing", "low", "high"] spIntIn := by
  have C_is_integer := ca_is_integer (P := P) (w := w) (base := base) T
  refine Ca.of (fd_is_integer_in T) sc_is_integer_in ?_ ?_
  · rintro vs H Q E ⟨i, lo, hi, rfl, _⟩; rfl
  · rintro f cdv A out s H vs Q E hr ⟨i, lo, hi, rfl, q⟩
    refine ⟨_, (pss_one (ps_ret (pe_and (pe_ca C_is_integer hr (pa_cons (pv 0) pa_nil)) (pe_one (pe_chain op_le op_le (pv 1) (pv 0) (pv 2)))))), ?_⟩
    refine ⟨_, rfl, ?_⟩
    walk_at "isint"
    refine ⟨true, rfl, iteT ⟨_, rfl, _, rfl, _, _, rfl, rfl, _, rfl, ite2 (fun c => ?_) (fun c => ?_)⟩⟩
    · refine ⟨_, rfl, _, _, rfl, rfl, ?_⟩
      have c' : lo ≤ i := of_decide_eq_true c
      have e : decide (i ≤ hi) = decide (lo ≤ i ∧ i ≤ hi) := by simp [c']
      rw [← e] at q; exact q
    · have c' : ¬ lo ≤ i := fun z => c (decide_eq_true z)
      have e : false = decide (lo ≤ i ∧ i ≤ hi) := by simp [c']
      rw [← e] at q; exact q
/-- of a tuple -/
def spTupleOf (K : PySem.W.Frag) : Sp := fun vs H Q _ => ∃ (a : Addr) (xs : List V) (n : Int), vs = [.ref a, .int n] ∧ SqT K H a xs ∧ Q (.bl (decide ((xs.length : Int) = n))) H
theorem ca_is_tuple_of (T : Tx K mg) : Ca P w K mg base 1 "is_tuple_of" s_is_tuple_of ["thing", "size"] (spTupleOf K) := by
  refine Ca.of (fd_is_tuple_of T) sc_is_tuple_of ?_ ?_
  · rintro vs H Q E ⟨a, xs, n, rfl, _⟩; rfl
  · rintro f cdv A out s H vs Q E hr ⟨a, xs, n, rfl, ht, q⟩
    refine ⟨_, (pss_one (ps_ret (pe_and (pe_callB call_isi (by rfl) T.f_isinstance (by decide +kernel) (pa_cons (pv 0) (pa_cons (pe_bltn (v := .ty "tuple") (by rfl) T.f_tuple (by decide +kernel) rfl) pa_nil))) (pe_one (pe_cmpR op_eq (pe_callB call_len_seq (by rfl) T.f_len (by decide +kernel) (pa_cons (pv 0) pa_nil)) (pv 1) (nomark _)))))), ?_⟩
    refine ⟨_, rfl, _, .ty "tuple", _, _, true, rfl, .ty "tuple", tyx_tup ht, kit_ty (by decide +kernel), true, rfl, iteT ?_⟩
    refine ⟨_, rfl, a, xs, rfl, .inr ht, _, rfl, rfl, ?_⟩
    have e : decide (V.int (xs.length : Int) = V.int n) = decide ((xs.length : Int) = n) := by
      by_cases h : (xs.length : Int) = n
      · rw [h]; simp
      · rw [decide_eq_false h, decide_eq_false (fun z => h (V.int.inj z))]
    rw [← e] at q; exact q
/-- all ints of a tuple within bounds -/
def spAreInts (K : PySem.W.Frag) : Sp := fun vs H Q _ => ∃ (a : Addr) (ns : List Int) (lo hi : Int), vs = [.ref a, .int lo, .int hi] ∧ SqT K H a (ns.map V.int) ∧ ns.length ≤ 1000 ∧
  ∀ H', Same H H' → Q (.bl (ns.all fun i => decide (lo ≤ i ∧ i ≤ hi))) H'
end
end K07

namespace K07
open PySem PySem.Spec PyProof.Rows L2 Ly Am
section
variable {P : Program} {w : World} {K : PySem.W.Frag} {mg : Str → Option Value} {base : Heap}
def spIsPrime : Sp := fun vs H Q _ => ∃ n : Nat, vs = [.int n] ∧ n < 2 ^ 40 ∧ ∀ b H', Same H H' → (b = true ↔ Pr n) → Q (.bl b) H'
theorem ca_is_prime (T : Tx K mg) : Ca P w K mg base 1 "is_prime" s_is_prime ["number"] spIsPrime := by
  refine Ca.of (fd_is_prime T) sc_is_prime ?_ ?_
  · rintro vs H Q E ⟨n, rfl, _⟩; rfl
  · rintro f cdv A out s H vs Q E hr ⟨n, rfl, hn, q⟩
    refine ⟨_, (pss_cons (ps_if (pt_cmpR op_lt (pv 0) pe_int (nomark _))
 (pss_one (ps_ret pe_bl))
 pss_nil)
 (pss_one (ps_ret (pe_callB (cr_all rfl) (by rfl) T.f_all (by decide +kernel) (pa_cons (pe_lc (own := [("divisor", 1)]) rfl sc_is_prime.nd (pi_range2 (by rfl) T.f_range (pa_cons pe_int (pa_cons (pe_op op_add (pe_callBfun cr_isqrt (by rfl) T.b_isqrt (pa_cons (pv 0) pa_nil)) pe_int) pa_nil))) (blkOk_by (own := [("divisor", 1)]) (N := n_is_prime) (sc := (defScope s_is_prime)) (by decide +kernel)) (fun _ _ _ _ _ => (pg_name (i := 1) sc_is_prime.nd rfl (Or.inl rfl) (Or.inr rfl))) (fun _ _ _ _ _ => pts_nil) (fun _ _ _ _ _ => (pe_cmpR op_ne (pe_op op_mod (pv 0) (pv 1)) pe_int (nomark _)))) pa_nil))))), ?_⟩
    refine ⟨_, rfl, _, _, rfl, rfl, _, rfl, ite2 (fun c => ?_) (fun c => ?_)⟩
    · have c' : (n : Int) < 2 := of_decide_eq_true c
      exact q false H (Same.refl H) ⟨(fun z => nomatch z), fun z => by have := z.1; omega⟩
    · have c' : 2 ≤ n := by
        have : ¬ ((n : Int) < 2) := fun z => c (decide_eq_true z)
        omega
      obtain ⟨r1, r2⟩ := PySem.Float64.isqrt_spec n
      have hr40 : PySem.Float64.isqrt n < 2 ^ 40 := by
        have : PySem.Float64.isqrt n ≤ PySem.Float64.isqrt n * PySem.Float64.isqrt n := Nat.le_mul_self _
        omega
      refine ⟨_, rfl, _, rfl, by omega, by omega, _, _, rfl, rfl, ?_⟩
      have hr20 : PySem.Float64.isqrt n < 2 ^ 20 := by
        apply Nat.lt_of_not_le
        intro z
        have := Nat.mul_le_mul z z
        omega
      have hr40' : PySem.Float64.isqrt ((n : Int).toNat) < 2 ^ 40 := hr40
      refine ⟨2, _, rfl, ⟨by decide, by decide, by omega, by omega⟩, fun D nD => ?_⟩
      refine lc_range (lo := 2) (n := ((((PySem.Float64.isqrt n : Nat) : Int) + 1) - 2).toNat) (fun i H' => Same H H' ∧ H' D = some (.lst (((List.range i).map fun j => !decide (n % (2 + j) = 0)).map V.bl))) ?_ ?_ ?_
      · exact ⟨same_new nD, upd_same⟩
      · rintro i H' hi ⟨sm, hD⟩
        refine ⟨rfl, ?_⟩
        have e2 : (2 + (i : Int)) = ((2 + i : Nat) : Int) := by omega
        refine ⟨_, rfl, _, rfl, _, _, rfl, rfl, (by show (0 : Int) < 2 + (i : Int); omega), rfl, _, hD, ?_, same_write nD sm, ?_⟩
        · rw [List.length_map, List.length_map, List.length_range]
          rw [sizeLine_eq]; omega
        · rw [upd_same, List.range_succ, List.map_append, List.map_append]
          have e3 : (!decide (V.int ((n : Int) % (2 + (i : Int))) = V.int 0)) = !decide (n % (2 + i) = 0) := by
            congr 1
            apply decide_eq_decide.mpr
            constructor
            · intro z
              have := V.int.inj z
              rw [e2] at this
              omega
            · intro z
              rw [e2]
              congr 1
              omega
          rw [e3]
          rfl
      · rintro H' ⟨sm, hD⟩
        refine ⟨D, _, rfl, .inl (.inl hD), ?_⟩
        refine q _ H' sm ?_
        rw [← pr_root c' r1 r2, List.all_eq_true]
        constructor
        · intro h d hd hr2
          have := h (!decide (n % (2 + (d - 2)) = 0)) (List.mem_map.mpr ⟨d - 2, List.mem_range.mpr (by omega), rfl⟩)
          rw [show 2 + (d - 2) = d by omega] at this
          simpa using this
        · intro h b hb
          obtain ⟨j, hj, rfl⟩ := List.mem_map.mp hb
          have := List.mem_range.mp hj
          simpa using h (2 + j) (by omega) (by omega)
end
end K07

namespace K07
open PySem PySem.Spec PyProof.Rows L2 Ly Am
/-- prime powers as a dict's entries -/
def zz (L : List (Nat × Nat)) : List (Int × Int) := L.map fun q => ((q.1 : Int), (q.2 : Int))
section
variable {P : Program} {w : World} {K : PySem.W.Frag} {mg : Str → Option Value} {base : Heap}
def spPrimePowers : Sp := fun vs H Q _ => ∃ n : Nat, vs = [.int n] ∧ 0 < n ∧ n < 2 ^ 40 ∧ ∀ D L H', H D = none → Same H H' → H' D = some (.dK (kd (zz L))) → PF n L → Q (.ref D) H'
/-- what holds of the rest m, ahead of the divisor d, the powers so far -/
structure PpI (n m d : Nat) (L : List (Nat × Nat)) : Prop where
  m0 : 0 < m
  d2 : 2 ≤ d
  asc : L.Pairwise (fun a b => a.1 < b.1)
  pr : ∀ q ∈ L, Pr q.1 ∧ 0 < q.2
  low : ∀ q ∈ L, q.1 < d
  rest : ∀ e, 2 ≤ e → e < d → m % e ≠ 0
  prod : pprod L * m = n
/-- within the inner loop: c powers of d have been taken -/
structure PpJ (n m d c : Nat) (L : List (Nat × Nat)) : Prop where
  m0 : 0 < m
  d2 : 2 ≤ d
  asc : L.Pairwise (fun a b => a.1 < b.1)
  pr : ∀ q ∈ L, Pr q.1 ∧ 0 < q.2
  low : ∀ q ∈ L, q.1 < d
  rest : ∀ e, 2 ≤ e → e < d → m % e ≠ 0
  prod : pprod L * d ^ c * m = n
  dp : c ≠ 0 → Pr d
def ppList (L : List (Nat × Nat)) (d c : Nat) : List (Nat × Nat) := if c = 0 then L else L ++ [(d, c)]
theorem pr_of_least {m d : Nat} (d2 : 2 ≤ d) (rest : ∀ e, 2 ≤ e → e < d → m % e ≠ 0) (h : m % d = 0) (m0 : 0 < m) : Pr d := by
  refine ⟨d2, fun e he => ?_⟩
  by_cases e1 : e = 1
  · exact .inl e1
  by_cases ed : e = d
  · exact .inr ed
  exfalso
  have hle := Nat.le_of_dvd (by omega) he
  have e0 : e ≠ 0 := by rintro rfl; have := Nat.zero_dvd.mp he; omega
  exact rest e (by omega) (by omega) (Nat.mod_eq_zero_of_dvd (Nat.dvd_trans he (Nat.dvd_of_mod_eq_zero h)))
theorem mod_of_div {m d e : Nat} (h : m % d = 0) (z : m / d % e = 0) : m % e = 0 := by
  obtain ⟨c, rfl⟩ := Nat.dvd_of_mod_eq_zero h
  by_cases d0 : d = 0
  · subst d0; simp
  · rw [Nat.mul_div_cancel_left c (by omega)] at z
    exact Nat.mod_eq_zero_of_dvd (Nat.dvd_trans (Nat.dvd_of_mod_eq_zero z) (Nat.dvd_mul_left c d))
theorem PpJ.step {n m d c : Nat} {L : List (Nat × Nat)} (h : PpJ n m d c L) (z : m % d = 0) : PpJ n (m / d) d (c + 1) L ∧ m / d < m := by
  obtain ⟨e, he⟩ := Nat.dvd_of_mod_eq_zero z
  have hd := h.d2
  have hm := h.m0
  have e1 : m / d = e := by rw [he]; exact Nat.mul_div_cancel_left e (by omega)
  have e0 : 0 < e := by
    apply Nat.pos_of_ne_zero
    rintro rfl
    omega
  have lt : m / d < m := Nat.div_lt_self hm (by omega)
  refine ⟨⟨by rw [e1]; exact e0, h.d2, h.asc, h.pr, h.low, fun x h1 h2 q => h.rest x h1 h2 (mod_of_div z q), ?_, fun _ => pr_of_least h.d2 h.rest z hm⟩, lt⟩
  rw [← h.prod, e1, he, Nat.pow_succ]
  simp only [Nat.mul_assoc]
theorem PpJ.done {n m d c : Nat} {L : List (Nat × Nat)} (h : PpJ n m d c L) (z : m % d ≠ 0) : PpI n m (d + 1) (ppList L d c) := by
  unfold ppList
  have rest : ∀ e, 2 ≤ e → e < d + 1 → m % e ≠ 0 := fun e h1 h2 => by
    by_cases q : e = d
    · rw [q]; exact z
    · exact h.rest e h1 (by omega)
  split
  · rename_i c0
    subst c0
    exact ⟨h.m0, by have := h.d2; omega, h.asc, h.pr, fun q hq => Nat.lt_succ_of_lt (h.low q hq), rest, by have := h.prod; rwa [Nat.pow_zero, Nat.mul_one] at this⟩
  · rename_i c0
    refine ⟨h.m0, by have := h.d2; omega, ?_, ?_, ?_, rest, ?_⟩
    · rw [List.pairwise_append]
      refine ⟨h.asc, by simp, ?_⟩
      intro a ha b hb
      have : b = (d, c) := by simpa using hb
      subst this
      exact h.low a ha
    · intro q hq
      rcases List.mem_append.mp hq with hq | hq
      · exact h.pr q hq
      · have : q = (d, c) := by simpa using hq
        subst this
        exact ⟨h.dp c0, Nat.pos_of_ne_zero c0⟩
    · intro q hq
      rcases List.mem_append.mp hq with hq | hq
      · exact Nat.lt_succ_of_lt (h.low q hq)
      · have : q = (d, c) := by simpa using hq
        subst this
        exact Nat.lt_succ_self d
    · rw [pprod_append]
      show pprod L * (d ^ c * 1) * m = n
      rw [Nat.mul_one]; exact h.prod
theorem PpI.inner {n m d : Nat} {L : List (Nat × Nat)} (h : PpI n m d L) : PpJ n m d 0 L :=
  ⟨h.m0, h.d2, h.asc, h.pr, h.low, h.rest, by rw [Nat.pow_zero, Nat.mul_one]; exact h.prod, fun z => absurd rfl z⟩
theorem PpI.end1 {n m d : Nat} {L : List (Nat × Nat)} (h : PpI n m d L) (z : ¬ m > 1) : PF n L := by
  have : m = 1 := by have := h.m0; omega
  subst this
  exact ⟨h.asc, h.pr, by have := h.prod; rwa [Nat.mul_one] at this⟩
theorem PpI.end2 {n m d : Nat} {L : List (Nat × Nat)} (h : PpI n m d L) (z : m > 1) (hd : m < d * d) : PF n (L ++ [(m, 1)]) ∧ ∀ q ∈ L, q.1 < m := by
  have dm : d ≤ m := by
    apply Nat.le_of_not_lt
    intro q
    exact h.rest m (by omega) q (Nat.mod_self m)
  have pm : Pr m := by
    refine ⟨by omega, fun e he => ?_⟩
    obtain ⟨x, hx⟩ := he
    by_cases e1 : e = 1
    · exact .inl e1
    by_cases em : e = m
    · exact .inr em
    exfalso
    have e0 : e ≠ 0 := by rintro rfl; omega
    have x0 : x ≠ 0 := by rintro rfl; omega
    have x1 : x ≠ 1 := by rintro rfl; omega
    by_cases c1 : e < d
    · exact h.rest e (by omega) c1 (by rw [hx]; exact Nat.mul_mod_right e x)
    · by_cases c2 : x < d
      · exact h.rest x (by omega) c2 (by rw [hx, Nat.mul_comm]; exact Nat.mul_mod_right x e)
      · have := Nat.mul_le_mul (Nat.le_of_not_lt c1) (Nat.le_of_not_lt c2)
        omega
  have low : ∀ q ∈ L, q.1 < m := fun q hq => Nat.lt_of_lt_of_le (h.low q hq) dm
  refine ⟨⟨?_, ?_, ?_⟩, low⟩
  · rw [List.pairwise_append]
    refine ⟨h.asc, by simp, ?_⟩
    intro a ha b hb
    have : b = (m, 1) := by simpa using hb
    subst this
    exact low a ha
  · intro q hq
    rcases List.mem_append.mp hq with hq | hq
    · exact h.pr q hq
    · have : q = (m, 1) := by simpa using hq
      subst this
      exact ⟨pm, Nat.one_pos⟩
  · rw [pprod_append]
    show pprod L * (m ^ 1 * 1) = n
    rw [Nat.pow_one, Nat.mul_one]; exact h.prod
theorem zz_none {L : List (Nat × Nat)} {d : Nat} (h : ∀ q ∈ L, q.1 ≠ d) : (zz L).lookup (d : Int) = none := by
  rw [lookup_none_iff]
  intro q hq
  obtain ⟨p, hp, rfl⟩ := List.mem_map.mp hq
  intro z
  exact h p hp (by have : (p.1 : Int) = (d : Int) := z; omega)
theorem zz_snoc (L : List (Nat × Nat)) (d c : Nat) : zz L ++ [((d : Int), (c : Int))] = zz (L ++ [(d, c)]) := by
  unfold zz; rw [List.map_append]; rfl
/-- d[k] = d.get(k, 0) + 1 of the powers -/
theorem pp_put {L : List (Nat × Nat)} {d c : Nat} (h : ∀ q ∈ L, q.1 < d) : ip (zz (ppList L d c)) d (ig (zz (ppList L d c)) d + 1) = zz (ppList L d (c + 1)) := by
  have hn : (zz L).lookup (d : Int) = none := zz_none fun q hq => Nat.ne_of_lt (h q hq)
  unfold ppList
  rw [if_neg (Nat.succ_ne_zero c)]
  split
  · rename_i c0
    subst c0
    rw [ip_new hn, ← zz_snoc]
    unfold ig
    rw [hn]; rfl
  · rw [← zz_snoc, ← zz_snoc]
    have e1 : ig (zz L ++ [((d : Int), (c : Int))]) d = c := by
      unfold ig
      rw [lookup_append, hn]
      simp [List.lookup_cons]
    rw [e1]
    unfold ip
    rw [if_pos (by rw [List.any_append]; simp), List.map_append]
    congr 1
    · conv => rhs; rw [← List.map_id (zz L)]
      apply List.map_congr_left
      intro q hq
      rw [if_neg ((lookup_none_iff _ _).mp hn q hq)]; rfl
    · simp
theorem pp_bits {L : List (Nat × Nat)} (h : ∀ q ∈ L, Pr q.1 ∧ 0 < q.2) : 2 ^ L.length ≤ pprod L := by
  induction L with
  | nil => exact Nat.le_refl _
  | cons q r ih =>
    have hq := h q List.mem_cons_self
    have h1 : 2 ≤ q.1 ^ q.2 := by
      calc 2 ≤ q.1 := hq.1.1
        _ = q.1 ^ 1 := (Nat.pow_one _).symm
        _ ≤ q.1 ^ q.2 := Nat.pow_le_pow_right hq.1.pos hq.2
    rw [List.length_cons, Nat.pow_succ, Nat.mul_comm]
    exact Nat.mul_le_mul h1 (ih fun z hz => h z (List.mem_cons_of_mem _ hz))
theorem pp_len {L : List (Nat × Nat)} {n m : Nat} (h : ∀ q ∈ L, Pr q.1 ∧ 0 < q.2) (e : pprod L * m = n) (m0 : 0 < m) (hn : n < 2 ^ 40) : L.length < 40 := by
  have h1 := pp_bits h
  have h2 : pprod L ≤ n := by rw [← e]; exact Nat.le_mul_of_pos_right _ m0
  have h3 : 2 ^ L.length < 2 ^ 40 := by omega
  exact (Nat.pow_lt_pow_iff_right (a := 2) (by omega)).mp h3
end
end K07

namespace K07
open PySem PySem.Spec PyProof.Rows L2 Ly Am
section
variable {P : Program} {w : World} {K : PySem.W.Frag} {mg : Str → Option Value} {base : Heap}
theorem kd_at {L : List (Int × Int)} {i : Nat} {k : Key} {x : V} (h : (kd L)[i]? = some (k, x)) : ∃ q, L[i]? = some q ∧ k = Sum.inl q.1 ∧ x = V.int q.2 := by
  unfold kd at h
  rw [List.getElem?_map] at h
  cases e : L[i]? with
  | none => rw [e] at h; cases h
  | some q =>
    rw [e] at h
    have := Option.some.inj h
    exact ⟨q, rfl, (congrArg Prod.fst this).symm, (congrArg Prod.snd this).symm⟩
theorem gl_snoc (b c : Int) (cs : List Int) : gl b (cs ++ [c]) = ((Nat.gcd (gl b cs).natAbs c.natAbs : Nat) : Int) := by
  unfold gl; rw [List.foldl_append]; rfl
theorem take_snoc {α β : Type} (f : α → β) {L : List α} {i : Nat} {q : α} (h : L[i]? = some q) : (L.take (i + 1)).map f = (L.take i).map f ++ [f q] := by
  rw [List.take_add_one, h, List.map_append]; rfl
/-- the parts that a dict makes, divided by g -/
def cut (g : Int) (L : List (Int × Int)) : List (Int × Int) := (L.filter fun q => decide (q.2 ≠ 0)).map fun q => (q.1, q.2 / g)
theorem cut_snoc {g : Int} {L : List (Int × Int)} {i : Nat} {q : Int × Int} (h : L[i]? = some q) : cut g (L.take (i + 1)) = if q.2 = 0 then cut g (L.take i) else cut g (L.take i) ++ [(q.1, q.2 / g)] := by
  unfold cut
  rw [List.take_add_one, h, List.filter_append, List.map_append]
  by_cases z : q.2 = 0
  · rw [if_pos z]; simp [z]
  · rw [if_neg z]; simp [z]
theorem cut_len (g : Int) (L : List (Int × Int)) : (cut g L).length ≤ L.length := by
  unfold cut; rw [List.length_map]; exact List.length_filter_le _ _
/-- primes alone are keys, none twice -/
structure KeyOk (L : List (Int × Int)) : Prop where
  nd : (L.map (·.1)).Nodup
  pr : ∀ q ∈ L, ∃ p : Nat, q.1 = p ∧ Pr p ∧ p < 1000000
def spAmountFrom (K : PySem.W.Frag) : Sp := fun vs H Q _ => ∃ (b : Int) (D : Addr) (L : List (Int × Int)), vs = [.int b, .ref D] ∧ 0 < b ∧ b < 2 ^ 64 ∧ H D = some (.dK (kd L)) ∧ KeyOk L ∧ L.length ≤ 2000 ∧
  ∀ v d L' H', Same H H' → AmtAt K H' v d L' → St4 d L' b (ig L) → Q v H'
theorem ca_amount_from (T : Tx K mg) : Ca P w K mg base 1 "amount_from" s_amount_from ["bottom", "powers"] (spAmountFrom K) := by
  refine Ca.of (fd_amount_from T) sc_amount_from ?_ ?_
  · rintro vs H Q E ⟨b, D, L, rfl, _⟩; rfl
  · rintro f cdv A out s H vs Q E hr ⟨b, D, L, rfl, hb, hb2, hD, ko, hl, q⟩
    refine ⟨_, (pss_cons (ps_set (i := 2) sc_amount_from.nd rfl (.inr rfl) (pv 0))
 (pss_cons (ps_lock (ps_for PassesOwn.never rfl (pi_values (pv 1)) (pg_name (i := 3) sc_amount_from.nd rfl (.inl rfl))
 (pss_one (ps_set (i := 2) sc_amount_from.nd rfl (.inr rfl) (pe_callBfun cr_gcd (by rfl) T.b_gcd (pa_cons (pv 2) (pa_cons (pv 3) pa_nil)))))))
 (pss_cons (ps_lock (ps_setLc (i := 4) (own := [("prime", 5), ("factor", 3)]) rfl sc_amount_from.nd rfl rfl (sw_true rfl rfl rfl (by decide +kernel)) (pi_items (pv 1)) (blkOk_by (own := [("prime", 5), ("factor", 3)]) (N := n_amount_from) (sc := (defScope s_amount_from)) (by decide +kernel)) (fun _ _ _ _ _ => (pg_tupK (K := K) 2 rfl (pgs_cons (pg_name (i := 5) sc_amount_from.nd rfl (Or.inl rfl) (Or.inr rfl)) (pgs_cons (pg_name (i := 3) sc_amount_from.nd rfl (Or.inl rfl) (Or.inr rfl)) pgs_nil)))) (fun _ _ _ _ _ => (pts_one (pt_cmpR op_ne (pv 3) pe_int (nomark _)))) (fun _ _ _ _ _ => (pe_tup (pa_cons (pv 5) (pa_cons (pe_op op_fdivW (pv 3) (pv 2)) pa_nil))))))
 (pss_one (ps_ret (pe_tup (pa_cons (pe_op op_fdivW (pv 0) (pv 2)) (pa_cons (pe_callTy call_tuple_of (by rfl) T.f_tuple (by decide +kernel) (pa_cons (pe_callB cr_sortedPO (by rfl) T.f_sorted (by decide +kernel) (pa_cons (pv 4) pa_nil)) pa_nil)) pa_nil)))))))), ?_⟩
    refine ⟨_, rfl, ?_⟩
    -- divisor = gcd of all
    refine ⟨D, _, hD, trivial, fun od => ?_⟩
    refine ⟨_, rfl, D, od, _, rfl, upd_same, ?_⟩
    have back : upd (upd H D (.frz od (.dK (kd L)))) D (.dK (kd L)) = H := by
      rw [upd_upd]
      funext x
      by_cases h : x = D
      · rw [h, upd_same, hD]
      · rw [upd_ne h]
    refine for_vals (fun i σ H' => ∃ y3, σ = [some (.int b), some (.ref D), some (.int (gl b ((L.take i).map (·.2)))), y3, none, none] ∧ H' = upd H D (.frz od (.dK (kd L)))) ⟨_, rfl, rfl⟩ ?_ ?_ ?_
    · rintro i σ H' ⟨y3, _, rfl⟩; exact upd_same
    · rintro i k x σ H' hk ⟨y3, rfl, rfl⟩
      obtain ⟨c, hc, rfl, rfl⟩ := kd_at hk
      refine ⟨_, rfl, _, rfl, _, _, rfl, ⟨some (.int c.2), ?_, rfl⟩⟩
      rw [take_snoc _ hc, gl_snoc]
      rfl
    · rintro σ H' ⟨y3, rfl, rfl⟩
      refine ⟨upd_same, ?_⟩
      rw [back]
      have hlen : (kd L).length = L.length := by unfold kd; rw [List.length_map]
      rw [hlen, List.take_of_length_le (Nat.le_refl _)]
      have g0 : 0 < gl b (L.map (·.2)) := gl_pos _ _ hb
      have gle : gl b (L.map (·.2)) ≤ b := gl_le _ hb
      generalize eg : gl b (L.map (·.2)) = g at *
      have gW : g.natAbs < 2 ^ 64 := by omega
      -- parts = ..
      refine ⟨D, _, hD, trivial, fun od2 => ?_⟩
      refine ⟨_, rfl, D, od2, _, rfl, upd_same, fun Dl nDl => ?_⟩
      have nD0 : Dl ≠ D := fun z => by rw [z, upd_same] at nDl; cases nDl
      refine lc_items (fun i H' => ∃ rs, H' Dl = some (.lst (rs.map V.ref)) ∧ TrP H' rs (cut g (L.take i)) ∧ Same (upd H D (.frz od2 (.dK (kd L)))) H') ?_ ?_ ?_ ?_
      · exact ⟨[], upd_same, .nil, same_new nDl⟩
      · rintro i H' ⟨rs, _, _, sm⟩
        exact sm _ _ upd_same
      · rintro i k x T2 H' hk ⟨rs, hDl, tr, sm⟩ nT
        obtain ⟨c, hc, rfl, rfl⟩ := kd_at hk
        have s1 : Same H' (upd H' T2 (.tup [V.int c.1, V.int c.2])) := same_new nT
        refine ⟨T2, _, rfl, sqT_new, rfl, _, _, rfl, _, [], rfl, rfl, rfl, ?_⟩
        refine ⟨_, rfl, rfl, ?_⟩
        have e1 : (!decide (V.int c.2 = V.int 0)) = !decide (c.2 = 0) := by
          congr 1
          exact decide_eq_decide.mpr ⟨fun z => V.int.inj z, fun z => congrArg V.int z⟩
        refine ⟨_, rfl, ?_⟩
        rw [e1]
        have rl : rs.length = (cut g (L.take i)).length := Paired.length tr
        have rlen : rs.length ≤ 2000 := by
          have h1 := cut_len g (L.take i)
          have h2 : (L.take i).length ≤ L.length := by rw [List.length_take]; omega
          omega
        by_cases z : c.2 = 0
        · rw [decide_eq_true z]
          refine iteF ⟨rs, s1 _ _ hDl, ?_, sm.trans s1⟩
          rw [cut_snoc hc, if_pos z]
          exact tr.same s1
        · rw [decide_eq_false z]
          refine iteT ?_
          refine ⟨_, rfl, _, rfl, _, rfl, _, _, rfl, rfl, wide_div g0 gW (by omega) (by omega), by show 2 ≤ sizeLine; rw [sizeLine_eq]; omega, fun p np => ?_⟩
          have s2 := same_new (o := .tup [V.int c.1, V.int (c.2 / g)]) np
          have s12 := s1.trans s2
          refine ⟨_, s12 _ _ hDl, by rw [List.length_map, sizeLine_eq]; omega, rs ++ [p], ?_, ?_, ?_⟩
          · rw [upd_same, List.map_append]; rfl
          · rw [cut_snoc hc, if_neg z]
            have pD : p ≠ Dl := fun e => ne_of_none (s1 _ _ hDl) np e.symm
            refine paired_snoc ?_ ?_
            · rw [upd_ne pD]; exact upd_same
            · exact (tr.same s12).kp (fun b o e n1 _ => by
                by_cases h : b = Dl
                · subst h; rw [s12 _ _ hDl] at e; exact absurd (Option.some.inj e).symm (n1 _)
                · rw [upd_ne h]; exact e)
          · exact same_write nDl (sm.trans s12)
      · rintro H2 ⟨rs, hDl, tr, sm⟩
        rw [hlen, List.take_of_length_le (Nat.le_refl _)] at tr
        refine ⟨sm _ _ upd_same, ?_⟩
        -- the lock is off
        have smH : Same H (upd H2 D (.dK (kd L))) := fun b' o e => by
          by_cases h : b' = D
          · subst h; rw [upd_same, ← hD]; exact e
          · rw [upd_ne h]; exact sm _ _ (by rw [upd_ne h]; exact e)
        have hDl2 : (upd H2 D (.dK (kd L))) Dl = some (.lst (rs.map V.ref)) := by rw [upd_ne nD0]; exact hDl
        have tr2 : TrP (upd H2 D (.dK (kd L))) rs (cut g L) := Paired.mapP tr fun r c h => by
          have : r ≠ D := fun z => by rw [z, sm _ _ upd_same] at h; cases h
          rw [upd_ne this]; exact h
        have nd : ((cut g L).map (·.1)).Nodup := by
          unfold cut
          rw [List.map_map]
          exact (ko.nd).sublist (List.Sublist.map _ List.filter_sublist)
        refine ⟨_, rfl, _, rfl, _, _, rfl, rfl, wide_div g0 gW (by omega) (by omega), ?_⟩
        refine ⟨_, rfl, _, _, kOf _, rfl, .inl (.inl hDl2), tr2.mem, fun ys p1 sr st np1 => ?_⟩
        obtain ⟨rs', L', e2, tr3, pm, asc⟩ := sorted_pairs tr2 nd sr st
        have s3 := same_new (o := .lst ys) np1
        refine ⟨_, _, rfl, .inl ⟨sqL_new, fun p2 np2 => ?_⟩⟩
        have s4 := same_new (o := .tup ys) np2
        refine ⟨by show 2 ≤ sizeLine; rw [sizeLine_eq]; omega, fun p3 np3 => ?_⟩
        have s5 := same_new (o := .tup [V.int (b / g), V.ref p2]) np3
        have cnd : St4 (b / gl b (L.map (·.2))) L' b (ig L) := cn_made hb ko.nd ko.pr (by rw [eg]; exact pm) asc
        rw [eg] at cnd
        refine q _ _ _ _ (((smH.trans s3).trans s4).trans s5) ⟨p3, p2, rs', rfl, sqT_new, ?_, ?_⟩ cnd
        · rw [← e2]; exact SqT.same s5 sqT_new
        · exact ((tr3.same s3).same (s4.trans s5)).pairs
end
end K07

namespace K07
open PySem PySem.Spec PyProof.Rows L2 Ly Am
section
variable {P : Program} {w : World} {K : PySem.W.Frag} {mg : Str → Option Value} {base : Heap}
theorem KeyOk.no {L : List (Int × Int)} (k : KeyOk L) {p : Int} (h : ¬ ∃ n : Nat, p = n ∧ Pr n) : ig L p = 0 :=
  ig_none fun q hq z => by
    obtain ⟨n, e, pr, _⟩ := k.pr q hq
    exact h ⟨n, by rw [← z, e], pr⟩
theorem KeyOk.put {L : List (Int × Int)} (k : KeyOk L) {p : Nat} (v : Int) (hp : Pr p) (hl : p < 1000000) : KeyOk (ip L p v) := by
  refine ⟨ip_nodup _ _ k.nd, fun q hq => ?_⟩
  rcases ip_keys (List.mem_map.mpr ⟨q, hq, rfl⟩) with e | e
  · exact ⟨p, e, hp, hl⟩
  · obtain ⟨x, hx, e⟩ := List.mem_map.mp e
    rw [← e]; exact k.pr x hx
theorem KeyOk.len {L : List (Int × Int)} (k : KeyOk L) {m : Nat} (h : ∀ q ∈ L, q.1 ≤ m) : L.length ≤ m + 1 := by
  have := nodup_le (m + 1) (L.map (·.1)) k.nd (fun x hx => by
    obtain ⟨q, hq, rfl⟩ := List.mem_map.mp hx
    obtain ⟨n, e, _⟩ := k.pr q hq
    have := h q hq
    omega)
  rw [List.length_map] at this
  exact this
theorem kd_len (L : List (Int × Int)) : (kd L).length = L.length := by unfold kd; rw [List.length_map]
theorem ig_zz {L : List (Nat × Nat)} (p : Nat) : ig (zz L) p = (look L p : Nat) := by
  induction L with
  | nil => rfl
  | cons q r ih =>
    show ig (((q.1 : Int), (q.2 : Int)) :: zz r) p = _
    rw [ig_cons, ih]
    unfold look
    rw [List.lookup_cons]
    by_cases h : p = q.1
    · subst h; simp
    · have h1 : (p == q.1) = false := by simpa using h
      rw [h1, if_neg (by show ¬ (p : Int) = (q.1 : Int); omega)]
/-- the pairs (factor, number) -/
structure PairsIn (M : List (Int × Int)) : Prop where
  num : ∀ q ∈ M, 0 < q.2 ∧ q.2 ≤ 1000
  fac : ∀ q ∈ M, q.1.natAbs < 2 ^ 20
  len : M.length ≤ 50
theorem pf_le {L : List (Nat × Nat)} (h : ∀ q ∈ L, Pr q.1 ∧ 0 < q.2) {q : Nat × Nat} (hq : q ∈ L) : q.1 ^ q.2 ≤ pprod L := by
  induction L with
  | nil => cases hq
  | cons x r ih =>
    have hr : ∀ z ∈ r, Pr z.1 ∧ 0 < z.2 := fun z hz => h z (List.mem_cons_of_mem _ hz)
    show _ ≤ x.1 ^ x.2 * pprod r
    rcases List.mem_cons.mp hq with e | hq
    · rw [e]; exact Nat.le_mul_of_pos_right _ (pprod_pos hr)
    · exact Nat.le_trans (ih hr hq) (Nat.le_mul_of_pos_left _ (Nat.pow_pos (h x List.mem_cons_self).1.pos))
theorem PF.bound {n : Nat} {L : List (Nat × Nat)} (f : PF n L) {q : Nat × Nat} (hq : q ∈ L) : q.1 ≤ n ∧ 2 ^ q.2 ≤ n := by
  have h1 := pf_le f.pr hq
  rw [f.prod] at h1
  obtain ⟨p1, p2⟩ := f.pr q hq
  have h2 : q.1 ^ 1 ≤ q.1 ^ q.2 := Nat.pow_le_pow_right p1.pos p2
  have h3 : 2 ^ q.2 ≤ q.1 ^ q.2 := Nat.pow_le_pow_left p1.1 _
  rw [Nat.pow_one] at h2
  omega
theorem PF.ig {n : Nat} {L : List (Nat × Nat)} (f : PF n L) (p : Int) : ig (zz L) p = lg [(1, n)] p := by
  rw [lg_one]
  by_cases h : 0 ≤ p ∧ Pr p.toNat
  · rw [if_pos h]
    have e : p = (p.toNat : Int) := by omega
    rw [e, ig_zz, f.look h.2]
    unfold vi
    rw [Int.toNat_natCast, Int.toNat_natCast, Int.one_mul]
  · rw [if_neg h]
    apply ig_none
    intro q hq z
    obtain ⟨x, hx, rfl⟩ := List.mem_map.mp hq
    have z' : (x.1 : Int) = p := z
    exact h ⟨by omega, by rw [← z', Int.toNat_natCast]; exact (f.pr x hx).1⟩
theorem lg_scale (f n p : Int) : lg [(f, n)] p = f * lg [(1, n)] p := by
  rw [lg_one, lg_one]
  split
  · rw [Int.one_mul]
  · rw [Int.mul_zero]
theorem ig_take {L : List (Int × Int)} {j : Nat} {q : Int × Int} (hn : (L.map (·.1)).Nodup) (h : L[j]? = some q) (p : Int) : ig (L.take (j + 1)) p = if p = q.1 then q.2 else ig (L.take j) p := by
  rw [List.take_add_one, h]
  have key : ∀ M : List (Int × Int), (∀ x ∈ M, x.1 ≠ q.1) → ig (M ++ [q]) p = if p = q.1 then q.2 else ig M p := by
    intro M
    induction M with
    | nil =>
      intro _
      show ig [q] p = _
      rw [ig_cons]
    | cons x r ih =>
      intro hx
      rw [List.cons_append, ig_cons, ig_cons, ih fun y hy => hx y (List.mem_cons_of_mem _ hy)]
      have := hx x List.mem_cons_self
      by_cases e : p = x.1
      · rw [if_pos e, if_pos e, if_neg (by rw [e]; exact this)]
      · rw [if_neg e, if_neg e]
  refine key _ fun x hx z => ?_
  have hj : j < L.length := (List.getElem?_eq_some_iff.mp h).1
  have e1 : L = L.take j ++ q :: L.drop (j + 1) := by
    conv => lhs; rw [← List.take_append_drop j L]
    congr 1
    rw [List.drop_eq_getElem_cons hj]
    congr 1
    exact (List.getElem?_eq_some_iff.mp h).2
  rw [e1, List.map_append, List.nodup_append] at hn
  exact hn.2.2 _ (List.mem_map.mpr ⟨x, hx, rfl⟩) _ (by rw [List.map_cons]; exact List.mem_cons_self) z
theorem zz_nodup {L : List (Nat × Nat)} (h : L.Pairwise (fun a b => a.1 < b.1)) : ((zz L).map (·.1)).Nodup := by
  unfold zz
  rw [List.map_map, List.Nodup, List.pairwise_map]
  refine h.imp ?_
  intro a b hab z
  have : (a.1 : Int) = (b.1 : Int) := z
  omega
def spLogsAdded (K : PySem.W.Frag) : Sp := fun vs H Q _ => ∃ (a : Addr) (rs : List Addr) (M : List (Int × Int)), vs = [.ref a] ∧ SqL K H a (rs.map V.ref) ∧ PairsAt K H rs M ∧ PairsIn M ∧
  ∀ D L H', H D = none → Same H H' → H' D = some (.dK (kd L)) → KeyOk L → (∀ q ∈ L, q.1 ≤ 1000) → (∀ p, ig L p = lg M p) → Q (.ref D) H'
end
end K07

namespace K07
open PySem PySem.Spec PyProof.Rows L2 Ly Am
section
variable {P : Program} {w : World} {K : PySem.W.Frag} {mg : Str → Option Value} {base : Heap}
/-- the pairs whose logarithms a spread adds up -/
def sprM (ns : List Int) : List (Int × Int) := (ns.sum, ns.sum) :: ns.map fun n => (-n, n)
structure Cts (ns : List Int) : Prop where
  pos : ∀ n ∈ ns, 0 < n
  ne : 0 < ns.length
  len : ns.length ≤ 40
  tot : ns.sum ≤ 1000
theorem sum_nonneg {ns : List Int} (h : ∀ n ∈ ns, 0 < n) : 0 ≤ ns.sum := by
  induction ns with
  | nil => simp
  | cons x r ih =>
    have := h x List.mem_cons_self
    have := ih fun y hy => h y (List.mem_cons_of_mem _ hy)
    rw [List.sum_cons]; omega
theorem mem_le_sum {ns : List Int} (h : ∀ n ∈ ns, 0 < n) {x : Int} (hx : x ∈ ns) : x ≤ ns.sum := by
  induction ns with
  | nil => cases hx
  | cons y r ih =>
    have hr : ∀ n ∈ r, 0 < n := fun z hz => h z (List.mem_cons_of_mem _ hz)
    have := sum_nonneg hr
    have := h y List.mem_cons_self
    rw [List.sum_cons]
    rcases List.mem_cons.mp hx with e | hx
    · omega
    · have := ih hr hx; omega
theorem Cts.sum_pos {ns : List Int} (c : Cts ns) : 0 < ns.sum := by
  cases ns with
  | nil => have := c.ne; simp at this
  | cons x r =>
    have h1 := c.pos x List.mem_cons_self
    have h2 := mem_le_sum c.pos (x := x) List.mem_cons_self
    omega
theorem Cts.pairs {ns : List Int} (c : Cts ns) : PairsIn (sprM ns) := by
  have s0 := c.sum_pos
  have t := c.tot
  refine ⟨?_, ?_, ?_⟩
  · intro q hq
    rcases List.mem_cons.mp hq with e | hq
    · rw [e]; exact ⟨s0, t⟩
    · obtain ⟨n, hn, rfl⟩ := List.mem_map.mp hq
      have := mem_le_sum c.pos hn
      have := c.pos n hn
      exact ⟨this, by show n ≤ 1000; omega⟩
  · intro q hq
    rcases List.mem_cons.mp hq with e | hq
    · rw [e]; show ns.sum.natAbs < _; omega
    · obtain ⟨n, hn, rfl⟩ := List.mem_map.mp hq
      have := mem_le_sum c.pos hn
      have := c.pos n hn
      show (-n).natAbs < _; omega
  · unfold sprM
    rw [List.length_cons, List.length_map]
    have := c.len; omega
theorem map_at {α β : Type} {f : α → β} {l : List α} {i : Nat} {x : β} (h : (l.map f)[i]? = some x) : ∃ n, l[i]? = some n ∧ f n = x := by
  rw [List.getElem?_map] at h
  cases e : l[i]? with
  | none => rw [e] at h; cases h
  | some n => rw [e] at h; exact ⟨n, rfl, Option.some.inj h⟩
def spSpreadOf (K : PySem.W.Frag) : Sp := fun vs H Q _ => ∃ (a : Addr) (ns : List Int), vs = [.ref a] ∧ SqT K H a (ns.map V.int) ∧ Cts ns ∧
  ∀ v d L H', Same H H' → AmtAt K H' v d L → St4 d L ns.sum (lg (sprM ns)) → Q v H'
end
end K07

namespace K07
open PySem PySem.Spec PyProof.Rows L2 Ly Am
abbrev Tm : Type := Int × Int × List (Int × Int)
def lcms (b : Int) (M : List Tm) : Int := M.foldl (fun g t => ((g.natAbs.lcm t.2.1.natAbs : Nat) : Int)) b
theorem lcms_snoc (b : Int) (M : List Tm) (t : Tm) : lcms b (M ++ [t]) = (((lcms b M).natAbs.lcm t.2.1.natAbs : Nat) : Int) := by
  unfold lcms; rw [List.foldl_append]; rfl
theorem lcms_pos : ∀ (M : List Tm) (b : Int), 0 < b → (∀ t ∈ M, 0 < t.2.1) → 0 < lcms b M
  | [], b, h, _ => h
  | t :: r, b, h, ht => by
    have h1 := ht t List.mem_cons_self
    refine lcms_pos r _ ?_ fun x hx => ht x (List.mem_cons_of_mem _ hx)
    have : 0 < b.natAbs.lcm t.2.1.natAbs := Nat.lcm_pos (by omega) (by omega)
    show 0 < ((b.natAbs.lcm t.2.1.natAbs : Nat) : Int)
    omega
theorem lcms_dvd : ∀ (M : List Tm) (b : Int), b ∣ lcms b M ∧ ∀ t ∈ M, t.2.1 ∣ lcms b M
  | [], b => ⟨Int.dvd_refl b, by simp⟩
  | t :: r, b => by
    obtain ⟨h1, h2⟩ := lcms_dvd r ((b.natAbs.lcm t.2.1.natAbs : Nat) : Int)
    have db : b ∣ ((b.natAbs.lcm t.2.1.natAbs : Nat) : Int) := Int.natAbs_dvd_natAbs.mp (by rw [Int.natAbs_natCast]; exact Nat.dvd_lcm_left _ _)
    have dt : t.2.1 ∣ ((b.natAbs.lcm t.2.1.natAbs : Nat) : Int) := Int.natAbs_dvd_natAbs.mp (by rw [Int.natAbs_natCast]; exact Nat.dvd_lcm_right _ _)
    refine ⟨Int.dvd_trans db h1, fun x hx => ?_⟩
    rcases List.mem_cons.mp hx with e | hx
    · rw [e]; exact Int.dvd_trans dt h1
    · exact h2 x hx
theorem lcms_take_le {M : List Tm} {i : Nat} (h : ∀ t ∈ M, 0 < t.2.1) : lcms 1 (M.take i) ≤ lcms 1 M := by
  have e : lcms 1 M = lcms (lcms 1 (M.take i)) (M.drop i) := by
    conv => lhs; rw [← List.take_append_drop i M]
    unfold lcms; rw [List.foldl_append]
  have h0 := lcms_pos M 1 (by omega) h
  refine Int.le_of_dvd h0 ?_
  rw [e]; exact (lcms_dvd _ _).1
/-- what the sum has at p -/
def cf (B : Int) (M : List Tm) (p : Int) : Int := (M.map fun t => t.1 * (B / t.2.1) * ig t.2.2 p).sum
theorem cf_snoc (B : Int) (M : List Tm) (t : Tm) (p : Int) : cf B (M ++ [t]) p = cf B M p + t.1 * (B / t.2.1) * ig t.2.2 p := by
  unfold cf; rw [List.map_append, List.sum_append]; simp
section
variable {P : Program} {w : World} {K : PySem.W.Frag} {mg : Str → Option Value} {base : Heap}
def TmAt (K : PySem.W.Frag) (H : Hp) (r : Addr) (t : Tm) : Prop := ∃ v, SqT K H r [.int t.1, v] ∧ AmtAt K H v t.2.1 t.2.2
theorem TmAt.same {H H' : Hp} {r : Addr} {t : Tm} (s : Same H H') (h : TmAt K H r t) : TmAt K H' r t := by
  obtain ⟨v, h1, h2⟩ := h
  exact ⟨v, SqT.same s h1, h2.same s⟩
structure TmOk (t : Tm) : Prop where
  cn : Cn t.2.1 t.2.2
  fac : t.1.natAbs < 2 ^ 20
  key : ∀ q ∈ t.2.2, q.1 ≤ 1000
  par : ∀ q ∈ t.2.2, q.2.natAbs < 2 ^ 64
def spCombined (K : PySem.W.Frag) : Sp := fun vs H Q _ => ∃ (a : Addr) (rs : List Addr) (M : List Tm), vs = [.ref a] ∧ SqL K H a (rs.map V.ref) ∧ Paired (TmAt K H) rs M ∧ (∀ t ∈ M, TmOk t) ∧ lcms 1 M < 2 ^ 64 ∧
  ∀ v d L H', Same H H' → AmtAt K H' v d L → St4 d L (lcms 1 M) (cf (lcms 1 M) M) → Q v H'
theorem asc_look {L : List (Int × Int)} (h : L.Pairwise (fun a b => a.1 < b.1)) {j : Nat} {u : Int × Int} (hu : L[j]? = some u) : ig (L.take j) u.1 = 0 := by
  apply ig_none
  intro x hx z
  have nd := asc_nodup h
  have hj : j < L.length := (List.getElem?_eq_some_iff.mp hu).1
  have e1 : L = L.take j ++ u :: L.drop (j + 1) := by
    conv => lhs; rw [← List.take_append_drop j L]
    congr 1
    rw [List.drop_eq_getElem_cons hj]
    congr 1
    exact (List.getElem?_eq_some_iff.mp hu).2
  rw [e1, List.map_append, List.nodup_append] at nd
  exact nd.2.2 _ (List.mem_map.mpr ⟨x, hx, rfl⟩) _ (by rw [List.map_cons]; exact List.mem_cons_self) z
theorem ca_combined (T : Tx K mg) : Ca P w K mg base 2 "combined" s_combined ["pairs"] (spCombined K) := by
  have C_amount_from := ca_amount_from (P := P) (w := w) (base := base) T
  refine Ca.of (fd_combined T) sc_combined ?_ ?_
  · rintro vs H Q E ⟨a, rs, M, rfl, _⟩; rfl
  · rintro f cdv A out s H vs Q E hr ⟨a, rs, M, rfl, hS, hP, hM, hB, q⟩
    have dpos : ∀ t ∈ M, 0 < t.2.1 := fun t ht => (hM t ht).cn.d1
    have B0 := lcms_pos M 1 (by omega) dpos
    refine ⟨_, (pss_cons (ps_set (i := 1) sc_combined.nd rfl (.inl rfl) pe_int)
 (pss_cons (ps_for PassesOwn.never rfl (pi_list (pv 0)) (pg_tup rfl (pgs_cons (pg_name (i := 2) sc_combined.nd rfl (.inl rfl)) (pgs_cons (pg_name (i := 3) sc_combined.nd rfl (.inl rfl)) pgs_nil)))
 (pss_one (ps_set (i := 1) sc_combined.nd rfl (.inl rfl) (pe_callBfun cr_lcm (by rfl) T.b_lcm (pa_cons (pv 1) (pa_cons (pe_ix ix_tup (pv 3) pe_int (fun _ _ => rfl)) pa_nil))))))
 (pss_cons (ps_set (i := 4) sc_combined.nd rfl (.inl rfl) pe_dnewK)
 (pss_cons (ps_for PassesOwn.never rfl (pi_list (pv 0)) (pg_tup rfl (pgs_cons (pg_name (i := 5) sc_combined.nd rfl (.inl rfl)) (pgs_cons (pg_name (i := 3) sc_combined.nd rfl (.inl rfl)) pgs_nil)))
 (pss_cons (ps_set (i := 6) sc_combined.nd rfl (.inl rfl) (pe_op op_mulW (pv 5) (pe_op op_fdivW (pv 1) (pe_ix ix_tup (pv 3) pe_int (fun _ _ => rfl)))))
 (pss_one (ps_for PassesOwn.never rfl (pi_tup (pe_ix ix_tup (pv 3) pe_int (fun _ _ => rfl))) (pg_tup rfl (pgs_cons (pg_name (i := 7) sc_combined.nd rfl (.inl rfl)) (pgs_cons (pg_name (i := 8) sc_combined.nd rfl (.inl rfl)) pgs_nil)))
 (pss_one (ps_dput (hu_of hr) (pv 4) (pv 7) (pe_op op_add (pe_dget2 (hu_of hr) (pv 4) (pv 7) pe_int ⟨rfl, rfl, rfl, rfl⟩) (pe_op op_mulW (pv 8) (pv 6))) rfl))))))
 (pss_one (ps_ret (pe_ca C_amount_from hr (pa_cons (pv 1) (pa_cons (pv 4) pa_nil))))))))), ?_⟩
    refine ⟨_, rfl, a, rfl, ⟨_, hS⟩, ?_⟩
    have rl : rs.length = M.length := Paired.length hP
    refine for_list (xs := rs.map V.ref) (fun i σ H' => ∃ y2 y3, σ = [some (.ref a), some (.int (lcms 1 (M.take i))), y2, y3, none, none, none, none, none] ∧ Same H H') ⟨_, _, rfl, Same.refl H⟩ ?_ ?_ ?_
    · rintro i σ H' _ ⟨_, _, _, sm⟩; exact sm.seq hS
    · rintro i x σ H1 hx ⟨y2, y3, rfl, sm⟩
      obtain ⟨r, hr1, rfl⟩ := map_at hx
      obtain ⟨t, ht, v, h1, h2⟩ := Paired.at' hP hr1
      have tm := List.mem_of_getElem? ht
      obtain ⟨a2, b2, rs2, e2, h3, h4, h5⟩ := h2.same sm
      refine ⟨r, _, rfl, SqT.same sm h1, rfl, _, _, rfl, _, [], rfl, rfl, ?_⟩
      have l1 := lcms_take_le (i := i) dpos
      have l2 := lcms_take_le (i := i + 1) dpos
      have d1 := (hM t tm).cn.d1
      have d2 : t.2.1 ≤ lcms 1 M := Int.le_of_dvd B0 ((lcms_dvd M 1).2 t tm)
      have l0 := lcms_pos (M.take i) 1 (by omega) fun x hx => dpos x (List.mem_of_mem_take hx)
      subst e2
      refine ⟨_, rfl, _, rfl, a2, _, 0, _, rfl, rfl, h3, atI_nat (j := 0) rfl, _, _, rfl, by omega, by omega, ?_⟩
      refine ⟨some (.int t.1), some (.ref a2), ?_, sm⟩
      rw [show M.take (i + 1) = M.take i ++ [t] by rw [List.take_add_one, ht]; rfl, lcms_snoc]
      rfl
    · rintro σ H1 ⟨y2, y3, rfl, sm⟩
      rw [List.length_map, rl, List.take_of_length_le (Nat.le_refl _)]
      generalize eB : lcms 1 M = B at *
      intro D nD1
      have nD : H D = none := sm.free nD1
      refine ⟨_, rfl, a, rfl, ⟨_, (sm.trans (same_new nD1)).seq hS⟩, ?_⟩
      refine for_list (xs := rs.map V.ref) (fun i σ H' => ∃ L y2 y3 y5 y6 y7 y8, σ = [some (.ref a), some (.int B), y2, y3, some (.ref D), y5, y6, y7, y8] ∧ H' D = some (.dK (kd L)) ∧ KeyOk L ∧ (∀ q ∈ L, q.1 ≤ 1000) ∧ (∀ p, ig L p = cf B (M.take i) p) ∧ Same H H') ?_ ?_ ?_ ?_
      · refine ⟨[], y2, y3, none, none, none, none, rfl, upd_same, ⟨List.nodup_nil, by simp⟩, by simp, fun p => ?_, sm.trans (same_new nD1)⟩
        rw [List.take_zero]; rfl
      · rintro i σ H' _ ⟨_, _, _, _, _, _, _, _, _, _, _, _, sm⟩; exact sm.seq hS
      · rintro i x σ H2 hx ⟨L, z2, z3, z5, z6, z7, z8, rfl, hD, ko, kl, hv, sm2⟩
        obtain ⟨r, hr1, rfl⟩ := map_at hx
        obtain ⟨t, ht, v, h1, h2⟩ := Paired.at' hP hr1
        have tm := List.mem_of_getElem? ht
        obtain ⟨a2, b2, rs2, e2, h3, h4, h5⟩ := h2.same sm2
        have ok := hM t tm
        have d1 := ok.cn.d1
        have d2 : t.2.1 ≤ B := by rw [← eB]; exact Int.le_of_dvd (by rw [eB]; exact B0) ((lcms_dvd M 1).2 t tm)
        subst e2
        refine ⟨r, _, rfl, SqT.same sm2 h1, rfl, _, _, rfl, _, [], rfl, rfl, ?_⟩
        have Bd : (B / t.2.1).natAbs < 2 ^ 64 := by
          have h6 : B / t.2.1 ≤ B := Int.ediv_le_self _ (by omega)
          have h7 : 0 ≤ B / t.2.1 := Int.ediv_nonneg (by omega) (by omega)
          omega
        refine ⟨_, rfl, _, rfl, _, rfl, a2, _, 0, _, rfl, rfl, h3, atI_nat (j := 0) rfl, _, _, rfl, rfl, wide_div d1 (b := 64) (by omega) (by omega) (by omega), _, _, rfl, rfl, wide_mul ok.fac Bd (by omega) (by omega) (by omega), ?_⟩
        refine ⟨_, rfl, a2, _, 1, _, rfl, rfl, h3, atI_nat (j := 1) rfl, _, rfl, ⟨_, h4⟩, ?_⟩
        refine for_tup (xs := rs2.map V.ref) (fun j σ H' => ∃ L' y7 y8, σ = [some (.ref a), some (.int B), z2, some (.ref a2), some (.ref D), some (.int t.1), some (.int (t.1 * (B / t.2.1))), y7, y8] ∧ H' D = some (.dK (kd L')) ∧ KeyOk L' ∧ (∀ q ∈ L', q.1 ≤ 1000) ∧
            (∀ p, ig L' p = ig L p + t.1 * (B / t.2.1) * ig (t.2.2.take j) p) ∧ Same H H' ∧ SqT K H' b2 (rs2.map V.ref) ∧ PairsAt K H' rs2 t.2.2) ?_ ?_ ?_ ?_
        · refine ⟨L, z7, z8, rfl, hD, ko, kl, fun p => ?_, sm2, h4, h5⟩
          rw [List.take_zero, show ig [] p = 0 from rfl, Int.mul_zero, Int.add_zero]
        · rintro j σ H' _ ⟨_, _, _, _, _, _, _, _, _, h, _⟩; exact h
        · rintro j x σ H3 hx ⟨L', y7, y8, rfl, hD3, ko3, kl3, hv3, s3, h43, h53⟩
          obtain ⟨r2, hr2, rfl⟩ := map_at hx
          obtain ⟨u, hu, hut⟩ := Paired.at' h53 hr2
          have um := List.mem_of_getElem? hu
          obtain ⟨pn, pe, pp, pl⟩ := ok.cn.pr u um
          have lenL : L'.length ≤ 1000 + 1 := ko3.len (m := 1000) kl3
          refine ⟨r2, _, rfl, hut, rfl, _, _, rfl, _, [], rfl, rfl, ?_⟩
          refine ⟨_, rfl, D, rfl, .inl ⟨_, .inl hD3⟩, _, rfl, _, DGet.k (k := Sum.inl u.1) hD3, _, rfl, _, rfl, _, _, rfl, rfl, wide_mul (a := 64) (b := 84) (ok.par u um) (wide_lt (a := 20) (b := 64) ok.fac Bd) (by omega) (by omega) (by omega), ?_⟩
          refine ⟨_, _, kd_getD _ _, rfl, _, rfl, _, rfl, D, _, rfl, DPut.k (k := Sum.inl u.1) hD3 (by rw [kd_len, sizeLine_eq]; omega), ?_⟩
          have kp3 : Kp H3 (upd H3 D (.dK (putK (kd L') (Sum.inl u.1) (V.int (ig L' u.1 + u.2 * (t.1 * (B / t.2.1))))))) := fun b o e _ n2 => by
            by_cases h : b = D
            · subst h; rw [hD3] at e; exact absurd (Option.some.inj e).symm (n2 _)
            · rw [upd_ne h]; exact e
          refine ⟨ip L' u.1 (ig L' u.1 + u.2 * (t.1 * (B / t.2.1))), _, _, rfl, ?_, ?_, ?_, fun p => ?_, same_write nD s3, SqT.kp kp3 h43, h53.kp kp3⟩
          · rw [upd_same, kd_put]
          · rw [pe]; exact ko3.put _ pp pl
          · intro y hy
            rcases ip_keys (List.mem_map.mpr ⟨y, hy, rfl⟩) with e | e
            · rw [e]; exact ok.key u um
            · obtain ⟨x, hx, e⟩ := List.mem_map.mp e
              rw [← e]; exact kl3 x hx
          · rw [ig_ip, ig_take (asc_nodup ok.cn.asc) hu]
            by_cases e : p = u.1
            · rw [if_pos e, if_pos e, hv3, e, asc_look ok.cn.asc hu, Int.mul_zero, Int.add_zero, Int.mul_comm u.2]
            · rw [if_neg e, if_neg e, hv3]
        · rintro σ H3 ⟨L', y7, y8, rfl, hD3, ko3, kl3, hv3, s3, _, h53⟩
          refine ⟨L', _, _, _, _, _, _, rfl, hD3, ko3, kl3, fun p => ?_, s3⟩
          have l2 : rs2.length = t.2.2.length := Paired.length h53
          rw [hv3, hv, List.length_map, l2, List.take_of_length_le (Nat.le_refl _), show M.take (i + 1) = M.take i ++ [t] by rw [List.take_add_one, ht]; rfl, cf_snoc]
      · rintro σ H2 ⟨L, _, _, _, _, _, _, rfl, hD, ko, kl, hv, sm2⟩
        rw [List.length_map, rl, List.take_of_length_le (Nat.le_refl _)] at hv
        have lenL : L.length ≤ 1000 + 1 := ko.len (m := 1000) kl
        refine ⟨_, rfl, _, rfl, B, D, L, rfl, B0, hB, hD, ko, by omega, fun v d L' H3 s3 am st => q v d L' H3 (sm2.trans s3) am ⟨st.1, fun p => by rw [← hv]; exact st.2 p⟩⟩
end
end K07

namespace K07
open PySem PySem.Spec PyProof.Rows L2 Ly Am
/-- the product of the powers above, below -/
def up (k : Nat) : List (Int × Int) → Int
  | [] => 1
  | q :: r => (if 0 < q.2 then q.1 ^ (k * q.2.natAbs) else 1) * up k r
def dn (k : Nat) : List (Int × Int) → Int
  | [] => 1
  | q :: r => (if 0 < q.2 then 1 else q.1 ^ (k * q.2.natAbs)) * dn k r
theorem up_snoc (k : Nat) (q : Int × Int) : ∀ L, up k (L ++ [q]) = up k L * (if 0 < q.2 then q.1 ^ (k * q.2.natAbs) else 1)
  | [] => by simp [up]
  | x :: r => by rw [List.cons_append]; show _ * up k (r ++ [q]) = _; rw [up_snoc k q r]; show _ = (_ * up k r) * _; rw [Int.mul_assoc]
theorem dn_snoc (k : Nat) (q : Int × Int) : ∀ L, dn k (L ++ [q]) = dn k L * (if 0 < q.2 then 1 else q.1 ^ (k * q.2.natAbs))
  | [] => by simp [dn]
  | x :: r => by rw [List.cons_append]; show _ * dn k (r ++ [q]) = _; rw [dn_snoc k q r]; show _ = (_ * dn k r) * _; rw [Int.mul_assoc]
/-- what the exponents add up to -/
def cost (L : List (Int × Int)) : Nat := (L.map fun q => q.2.natAbs).sum
theorem pw_bits {p : Int} {n k c : Nat} (h : p.natAbs < 2 ^ n) : (if True then p ^ (k * c) else 1).natAbs < 2 ^ (n * (k * c) + 1) := by
  rw [if_pos trivial]; exact pow_bits h _
theorem up_bits {n k : Nat} : ∀ {L : List (Int × Int)}, (∀ q ∈ L, q.1.natAbs < 2 ^ n) → (up k L).natAbs < 2 ^ (n * (k * cost L) + L.length + 1)
  | [], _ => by show (1 : Nat) < _; exact Nat.one_lt_two_pow (by omega)
  | q :: r, h => by
    have ih := up_bits (k := k) (L := r) fun z hz => h z (List.mem_cons_of_mem _ hz)
    have h1 : ((if 0 < q.2 then q.1 ^ (k * q.2.natAbs) else 1)).natAbs < 2 ^ (n * (k * q.2.natAbs) + 1) := by
      split
      · exact pow_bits (h q List.mem_cons_self) _
      · exact Nat.one_lt_two_pow (by omega)
    have h2 := wide_lt h1 ih
    have e : n * (k * q.2.natAbs) + 1 + (n * (k * cost r) + r.length + 1) = n * (k * cost (q :: r)) + (q :: r).length + 1 := by
      have : cost (q :: r) = q.2.natAbs + cost r := by unfold cost; rw [List.map_cons, List.sum_cons]
      rw [this, List.length_cons, Nat.mul_add, Nat.mul_add]; omega
    rw [e] at h2
    exact h2
theorem dn_bits {n k : Nat} : ∀ {L : List (Int × Int)}, (∀ q ∈ L, q.1.natAbs < 2 ^ n) → (dn k L).natAbs < 2 ^ (n * (k * cost L) + L.length + 1)
  | [], _ => by show (1 : Nat) < _; exact Nat.one_lt_two_pow (by omega)
  | q :: r, h => by
    have ih := dn_bits (k := k) (L := r) fun z hz => h z (List.mem_cons_of_mem _ hz)
    have h1 : ((if 0 < q.2 then 1 else q.1 ^ (k * q.2.natAbs))).natAbs < 2 ^ (n * (k * q.2.natAbs) + 1) := by
      split
      · exact Nat.one_lt_two_pow (by omega)
      · exact pow_bits (h q List.mem_cons_self) _
    have h2 := wide_lt h1 ih
    have e : n * (k * q.2.natAbs) + 1 + (n * (k * cost r) + r.length + 1) = n * (k * cost (q :: r)) + (q :: r).length + 1 := by
      have : cost (q :: r) = q.2.natAbs + cost r := by unfold cost; rw [List.map_cons, List.sum_cons]
      rw [this, List.length_cons, Nat.mul_add, Nat.mul_add]; omega
    rw [e] at h2
    exact h2
theorem cost_take (L : List (Int × Int)) (i : Nat) : cost (L.take i) ≤ cost L := by
  conv => rhs; rw [← List.take_append_drop i L]
  unfold cost
  rw [List.map_append, List.sum_append]; omega
theorem cost_mem {L : List (Int × Int)} {q : Int × Int} (h : q ∈ L) : q.2.natAbs ≤ cost L := by
  induction L with
  | nil => cases h
  | cons x r ih =>
    unfold cost; rw [List.map_cons, List.sum_cons]
    rcases List.mem_cons.mp h with e | h
    · rw [e]; omega
    · have := ih h; unfold cost at this; omega
/-- the products can be worked out -/
structure Fits (n k : Nat) (L : List (Int × Int)) : Prop where
  pos : ∀ q ∈ L, 0 < q.1 ∧ q.1 < 2 ^ n
  one : ∀ q ∈ L, n * (2 * (k * q.2.natAbs)) ≤ 400000
  all : n * (k * cost L) + L.length ≤ 450000
  k20 : k < 2 ^ 20
  ex : ∀ q ∈ L, q.2.natAbs < 2 ^ 64
section
variable {P : Program} {w : World} {K : PySem.W.Frag} {mg : Str → Option Value} {base : Heap}
def spProducts (K : PySem.W.Frag) : Sp := fun vs H Q _ => ∃ (b : Addr) (rs : List Addr) (L : List (Int × Int)) (k n : Nat), vs = [.ref b, .int k] ∧ SqT K H b (rs.map V.ref) ∧ PairsAt K H rs L ∧ Fits n k L ∧
  ∀ t H', Same H H' → SqT K H' t [.int (up k L), .int (dn k L)] → Q (.ref t) H'
theorem ca_products_of (T : Tx K mg) : Ca P w K mg base 2 "products_of" s_products_of ["parts", "k"] (spProducts K) := by
  have C_power := ca_power (P := P) (w := w) (base := base) T
  refine Ca.of (fd_products_of T) sc_products_of ?_ ?_
  · rintro vs H Q E ⟨b, rs, L, k, n, rfl, _⟩; rfl
  · rintro f cdv A out s H vs Q E hr ⟨b, rs, L, k, n, rfl, hT, hP, hF, q⟩
    refine ⟨_, (pss_cons (ps_set (i := 2) sc_products_of.nd rfl (.inl rfl) pe_int)
 (pss_cons (ps_set (i := 3) sc_products_of.nd rfl (.inl rfl) pe_int)
 (pss_cons (ps_for PassesOwn.never rfl (pi_tup (pv 0)) (pg_tup rfl (pgs_cons (pg_name (i := 4) sc_products_of.nd rfl (.inl rfl)) (pgs_cons (pg_name (i := 5) sc_products_of.nd rfl (.inl rfl)) pgs_nil)))
 (pss_one (ps_if (pt_cmpR op_gt (pv 5) pe_int (nomark _))
 (pss_one (ps_set (i := 2) sc_products_of.nd rfl (.inl rfl) (pe_op op_mulW (pv 2) (pe_ca C_power hr (pa_cons (pv 4) (pa_cons (pe_op op_mulW (pv 1) (pv 5)) pa_nil))))))
 (pss_one (ps_set (i := 3) sc_products_of.nd rfl (.inl rfl) (pe_op op_mulW (pv 3) (pe_ca C_power hr (pa_cons (pv 4) (pa_cons (pe_op op_mulW (pe_un un_neg (pv 1)) (pv 5)) pa_nil)))))))))
 (pss_one (ps_ret (pe_tup (pa_cons (pv 2) (pa_cons (pv 3) pa_nil)))))))), ?_⟩
    refine ⟨_, rfl, b, rfl, ⟨_, hT⟩, ?_⟩
    have rl : rs.length = L.length := Paired.length hP
    refine for_tup (xs := rs.map V.ref) (fun i σ H' => ∃ y4 y5, σ = [some (.ref b), some (.int k), some (.int (up k (L.take i))), some (.int (dn k (L.take i))), y4, y5] ∧ H' = H) ⟨none, none, rfl, rfl⟩ ?_ ?_ ?_
    · rintro i σ H' _ ⟨_, _, _, rfl⟩; exact hT
    · rintro i x σ H' hx ⟨y4, y5, rfl, rfl⟩
      obtain ⟨r, hr1, rfl⟩ := map_at hx
      obtain ⟨u, hu, hut⟩ := Paired.at' hP hr1
      have um := List.mem_of_getElem? hu
      obtain ⟨p0, pn⟩ := hF.pos u um
      have one := hF.one u um
      have ba : ∀ q ∈ L.take i, q.1.natAbs < 2 ^ n := fun q hq => by
        obtain ⟨a1, a2⟩ := hF.pos q (List.mem_of_mem_take hq)
        have e2 : ((2 : Int) ^ n) = ((2 ^ n : Nat) : Int) := by simp
        omega
      have pb : u.1.natAbs < 2 ^ n := by
        have e2 : ((2 : Int) ^ n) = ((2 ^ n : Nat) : Int) := by simp
        omega
      have ub := up_bits (k := k) ba
      have db := dn_bits (k := k) ba
      have pw := pow_bits pb (k * u.2.natAbs)
      have len : (L.take i).length ≤ L.length := by rw [List.length_take]; omega
      have cs : n * (k * cost (L.take i)) ≤ n * (k * cost L) := Nat.mul_le_mul_left _ (Nat.mul_le_mul_left _ (cost_take L i))
      have cm : n * (k * u.2.natAbs) ≤ n * (k * cost L) := Nat.mul_le_mul_left _ (Nat.mul_le_mul_left _ (cost_mem um))
      have all := hF.all
      have tk : L.take (i + 1) = L.take i ++ [u] := by rw [List.take_add_one, hu]; rfl
      have kx := hF.k20
      have ex := hF.ex u um
      refine ⟨r, _, rfl, hut, rfl, _, _, rfl, _, [], rfl, rfl, ?_⟩
      refine ⟨_, rfl, _, _, rfl, rfl, _, rfl, ite2 (fun c => ?_) (fun c => ?_)⟩
      · have c' : 0 < u.2 := of_decide_eq_true c
        have e1 : (k : Int) * u.2 = ((k * u.2.natAbs : Nat) : Int) := by
          rw [Int.natCast_mul]; congr 1; omega
        refine ⟨_, rfl, _, rfl, _, rfl, _, rfl, _, _, rfl, rfl, wide_mul (a := 20) (b := 64) (by omega) ex (by omega) (by omega) (by omega), u.1, k * u.2.natAbs, n, by show [V.int u.1, V.int ((k : Int) * u.2)] = _; rw [e1], pb, one, ?_⟩
        refine ⟨_, _, rfl, rfl, wide_mul ub pw (by omega) (by omega) (by omega), some (.int u.1), some (.int u.2), ?_, rfl⟩
        rw [tk, up_snoc, dn_snoc, if_pos c', if_pos c', Int.mul_one]
        rfl
      · have c' : ¬ 0 < u.2 := fun z => c (decide_eq_true z)
        have e1 : (-(k : Int)) * u.2 = ((k * u.2.natAbs : Nat) : Int) := by
          rw [Int.natCast_mul, Int.neg_mul, ← Int.mul_neg]; congr 1; omega
        refine ⟨_, rfl, _, rfl, _, rfl, _, rfl, _, rfl, _, _, rfl, rfl, wide_mul (a := 20) (b := 64) (by omega) ex (by omega) (by omega) (by omega), u.1, k * u.2.natAbs, n, by show [V.int u.1, V.int ((-(k : Int)) * u.2)] = _; rw [e1], pb, one, ?_⟩
        refine ⟨_, _, rfl, rfl, wide_mul db pw (by omega) (by omega) (by omega), some (.int u.1), some (.int u.2), ?_, rfl⟩
        rw [tk, up_snoc, dn_snoc, if_neg c', if_neg c', Int.mul_one]
        rfl
    · rintro σ H' ⟨y4, y5, rfl, rfl⟩
      rw [List.length_map, rl, List.take_of_length_le (Nat.le_refl _)]
      refine ⟨_, rfl, _, rfl, by show 2 ≤ sizeLine; rw [sizeLine_eq]; omega, fun t nt => q t _ (same_new nt) sqT_new⟩
end
end K07

namespace K07
open PySem PySem.Spec PyProof.Rows L2 Ly Am
section
variable {P : Program} {w : World} {K : PySem.W.Frag} {mg : Str → Option Value} {base : Heap}
local macro_rules | `(tactic| walk_at "isint") => `(tactic| refine ⟨_, "int", true, false, rfl, tyx_int, by decide +kernel, by decide +kernel, ?_⟩)
/-- what the amounts of this law are within -/
structure AmOk (d : Int) (L : List (Int × Int)) : Prop where
  cn : Cn d L
  dl : d < 2 ^ 64
  key : ∀ q ∈ L, q.1 ≤ 1000
  par : ∀ q ∈ L, q.2.natAbs < 2 ^ 64
theorem keys_few {L : List (Int × Int)} {m : Nat} (nd : (L.map (·.1)).Nodup) (h : ∀ q ∈ L, 0 ≤ q.1 ∧ q.1 ≤ m) : L.length ≤ m + 1 := by
  have := nodup_le (m + 1) (L.map (·.1)) nd (by
    intro x hx
    obtain ⟨q, hq, rfl⟩ := List.mem_map.mp hx
    have := h q hq
    omega)
  rwa [List.length_map] at this
theorem AmOk.len {d : Int} {L : List (Int × Int)} (c : AmOk d L) : L.length ≤ 1001 :=
  keys_few (m := 1000) (asc_nodup c.cn.asc) fun q hq => ⟨by obtain ⟨p, e, _⟩ := c.cn.pr q hq; omega, c.key q hq⟩
def spIsPart (K : PySem.W.Frag) : Sp := fun vs H Q _ => ∃ (a : Addr) (p : Nat) (e : Int), vs = [.ref a] ∧ SqT K H a [.int p, .int e] ∧ Pr p ∧ p < 1000000 ∧ e ≠ 0 ∧ ∀ H', Same H H' → Q (.bl true) H'
theorem ca_is_part (T : Tx K mg) : Ca P w K mg base 3 "is_part" s_is_part ["thing"] (spIsPart K) := by
  have C_is_tuple_of := ca_is_tuple_of (P := P) (w := w) (base := base) T
  have C_is_integer := ca_is_integer (P := P) (w := w) (base := base) T
  have C_is_integer_in := ca_is_integer_in (P := P) (w := w) (base := base) T
  have C_is_prime := ca_is_prime (P := P) (w := w) (base := base) T
  refine Ca.of (fd_is_part T) sc_is_part ?_ ?_
  · rintro vs H Q E ⟨b, p, e, rfl, _⟩; rfl
  · rintro f cdv A out s H vs Q E hr ⟨b, p, e, rfl, hT, hp, hl, he, q⟩
    refine ⟨_, (pss_cons (ps_if (PW.pt (pw_or (pt_not (pt_val (pe_ca C_is_tuple_of hr (pa_cons (pv 0) (pa_cons pe_int pa_nil))))) (pw_or (pt_not (pt_val (pe_ca C_is_integer hr (pa_cons (pe_ix ix_tup (pv 0) pe_int (fun _ _ => rfl)) pa_nil)))) (pw_or1 (pt_cmpR op_eq (pe_ix ix_tup (pv 0) pe_int (fun _ _ => rfl)) pe_int (nomark _))))))
 (pss_one (ps_ret pe_bl))
 pss_nil)
 (pss_one (ps_ret (pe_and (pe_ca C_is_integer_in hr (pa_cons (pe_ix ix_tup (pv 0) pe_int (fun _ _ => rfl)) (pa_cons pe_int (pa_cons (pe_op op_sub (pe_globI T.i_ABOVE_PRIMES) pe_int) pa_nil)))) (pe_one (pe_ca C_is_prime hr (pa_cons (pe_ix ix_tup (pv 0) pe_int (fun _ _ => rfl)) pa_nil))))))), ?_⟩
    refine ⟨_, rfl, b, _, 2, rfl, hT, ?_⟩
    refine ⟨true, rfl, iteF ?_⟩
    refine ⟨_, rfl, b, _, 1, _, rfl, rfl, hT, atI_nat (j := 1) rfl, ?_⟩
    walk_at "isint"
    have e1 : decide (V.int e = V.int 0) = false := decide_eq_false fun z => he (V.int.inj z)
    refine ⟨true, rfl, iteF ?_⟩
    refine ⟨_, rfl, b, _, 1, _, rfl, rfl, hT, atI_nat (j := 1) rfl, rfl, _, rfl, ?_⟩
    rw [e1]
    refine iteF ?_
    refine ⟨_, rfl, b, _, 0, _, rfl, rfl, hT, atI_nat (j := 0) rfl, _, _, rfl, rfl, ?_⟩
    refine ⟨p, 2, _, rfl, ?_⟩
    have p2 := hp.two
    have e2 : decide ((2 : Int) ≤ (p : Int) ∧ (p : Int) ≤ 1000000 - 1) = true := decide_eq_true ⟨by omega, by omega⟩
    refine ⟨true, by rw [e2], iteT ?_⟩
    refine ⟨_, rfl, b, _, 0, _, rfl, rfl, hT, atI_nat (j := 0) rfl, p, rfl, by omega, fun bb H' s hb => ?_⟩
    have : bb = true := hb.mpr hp
    rw [this]
    exact q H' s
def spAsc (K : PySem.W.Frag) : Sp := fun vs H Q _ => ∃ (a : Addr) (ns : List Int), vs = [.ref a] ∧ SqL K H a (ns.map V.int) ∧ ns.Pairwise (· < ·) ∧ ns.length ≤ 2000 ∧ ∀ H', Same H H' → Q (.bl true) H'
theorem ca_is_ascending (T : Tx K mg) : Ca P w K mg base 1 "is_ascending" s_is_ascending ["items"] (spAsc K) := by
  refine Ca.of (fd_is_ascending T) sc_is_ascending ?_ ?_
  · rintro vs H Q E ⟨b, ns, rfl, _⟩; rfl
  · rintro f cdv A out s H vs Q E hr ⟨b, ns, rfl, hS, hA, hl, q⟩
    refine ⟨_, (pss_one (ps_ret (pe_callB (cr_all rfl) (by rfl) T.f_all (by decide +kernel) (pa_cons (pe_lc (own := [("one", 1), ("other", 2)]) rfl sc_is_ascending.nd (pi_zip (by rfl) T.f_zip (pa_cons (pv 0) (pa_cons (pe_slice sl_list (pv 0) (po_some pe_int) po_none) pa_nil))) (blkOk_by (own := [("one", 1), ("other", 2)]) (N := n_is_ascending) (sc := (defScope s_is_ascending)) (by decide +kernel)) (fun _ _ _ _ _ => (pg_tupK (K := K) 2 rfl (pgs_cons (pg_name (i := 1) sc_is_ascending.nd rfl (Or.inl rfl) (Or.inr rfl)) (pgs_cons (pg_name (i := 2) sc_is_ascending.nd rfl (Or.inl rfl) (Or.inr rfl)) pgs_nil)))) (fun _ _ _ _ _ => pts_nil) (fun _ _ _ _ _ => (pe_cmpR op_lt (pv 1) (pv 2) (nomark _)))) pa_nil)))), ?_⟩
    refine ⟨_, rfl, _, rfl, 1, rfl, b, _, rfl, hS, fun p np => ?_⟩
    have s1 := same_new (o := .lst (cutV (ns.map V.int) (some 1) none)) np
    have ec : cutV (ns.map V.int) (some 1) none = (ns.drop 1).map V.int := by
      unfold cutV
      cases ns with
      | nil => rfl
      | cons x r =>
        have e1 : HT.sIx ((x :: r).map V.int).length 0 (some 1) = 1 := by
          rw [List.length_map, List.length_cons]; simp [HT.sIx]
        have e2 : HT.sIx ((x :: r).map V.int).length ((x :: r).map V.int).length none = ((x :: r).map V.int).length := rfl
        rw [e1, e2, List.take_of_length_le (by rw [List.length_drop]; omega), List.map_drop]
    rw [ec] at s1 ⊢
    refine ⟨b, p, _, _, rfl, s1.seq hS, sqL_new, fun D nD => ?_⟩
    have len : ns.length - 1 = min (ns.map V.int).length ((ns.drop 1).map V.int).length := by
      rw [List.length_map, List.length_map, List.length_drop]; omega
    generalize e1 : upd H p (HO.lst ((ns.drop 1).map V.int)) = H1 at *
    have hp : SqL K H1 p ((ns.drop 1).map V.int) := by rw [← e1]; exact sqL_new
    refine lc_it (walk_zip (xs := ns.map V.int) (ys := (ns.drop 1).map V.int) len) (fun i H' => Same H1 H' ∧ H' D = some (.lst ((List.replicate i true).map V.bl))) ?_ ?_ ?_ ?_
    · exact ⟨same_new nD, upd_same⟩
    · rintro i H' _ ⟨sm, _⟩; exact ⟨sm.seq (s1.seq hS), sm.seq hp⟩
    · rintro i x H' H2 hi ⟨sm, hD⟩ ⟨t, x1, x2, rfl, nt, rfl, g1, g2⟩
      obtain ⟨u, hu, rfl⟩ := map_at g1
      obtain ⟨v, hv, rfl⟩ := map_at g2
      have s3 := same_new (o := .tup [V.int u, V.int v]) nt
      refine ⟨t, _, rfl, sqT_new, rfl, _, _, rfl, _, [], rfl, rfl, rfl, ?_⟩
      refine ⟨_, rfl, _, rfl, u, v, rfl, rfl, _, s3 _ _ hD, ?_, same_write nD (sm.trans s3), ?_⟩
      · rw [List.length_map, List.length_replicate, sizeLine_eq]
        omega
      · have lt : u < v := by
          rw [List.getElem?_drop] at hv
          have a1 := List.getElem?_eq_some_iff.mp hu
          have a2 := List.getElem?_eq_some_iff.mp hv
          obtain ⟨b1, c1⟩ := a1
          obtain ⟨b2, c2⟩ := a2
          have := List.pairwise_iff_getElem.mp hA i (1 + i) b1 b2 (by omega)
          rw [c1, c2] at this; exact this
        show upd _ D _ D = _
        rw [upd_same, List.replicate_succ', List.map_append]
        show some (HO.lst (_ ++ [V.bl (decide (u < v))])) = _
        rw [decide_eq_true lt]; rfl
    · rintro H2 ⟨sm, hD⟩
      refine ⟨D, _, rfl, .inl (.inl hD), ?_⟩
      have e : (List.replicate (ns.length - 1) true).all id = true := by simp
      have z := q H2 (s1.trans sm)
      rw [← e] at z; exact z
end
end K07

namespace K07
open PySem PySem.Spec PyProof.Rows L2 Ly Am
section
variable {P : Program} {w : World} {K : PySem.W.Frag} {mg : Str → Option Value} {base : Heap}
local macro_rules | `(tactic| walk_at "isint") => `(tactic| refine ⟨_, "int", true, false, rfl, tyx_int, by decide +kernel, by decide +kernel, ?_⟩)
def spIsAmount (K : PySem.W.Frag) : Sp := fun vs H Q _ => ∃ (v : V) (d : Int) (L : List (Int × Int)), vs = [v] ∧ AmtAt K H v d L ∧ AmOk d L ∧ ∀ H', Same H H' → Q (.bl true) H'
def spReqAmount (K : PySem.W.Frag) : Sp := fun vs H Q _ => ∃ (v : V) (d : Int) (L : List (Int × Int)), vs = [v] ∧ AmtAt K H v d L ∧ AmOk d L ∧ ∀ H', Same H H' → Q .non H'
theorem ca_is_amount (T : Tx K mg) : Ca P w K mg base 4 "is_amount" s_is_amount ["thing"] (spIsAmount K) := by
  have C_is_tuple_of := ca_is_tuple_of (P := P) (w := w) (base := base) T
  have C_is_integer := ca_is_integer (P := P) (w := w) (base := base) T
  have C_is_part := ca_is_part (P := P) (w := w) (base := base) T
  have C_is_ascending := ca_is_ascending (P := P) (w := w) (base := base) T
  refine Ca.of (fd_is_amount T) sc_is_amount ?_ ?_
  · rintro vs H Q E ⟨v, d, L, rfl, _⟩; rfl
  · rintro f cdv A out s H vs Q E hr ⟨_, d, L, rfl, ⟨a, b, rs, rfl, h1, h2, h3⟩, ok, q⟩
    refine ⟨_, (pss_cons (ps_if (pt_not (pt_val (pe_ca C_is_tuple_of hr (pa_cons (pv 0) (pa_cons pe_int pa_nil)))))
 (pss_one (ps_ret pe_bl))
 pss_nil)
 (pss_cons (ps_asg (pv 0) (pg_tup rfl (pgs_cons (pg_name (i := 1) sc_is_amount.nd rfl (.inl rfl)) (pgs_cons (pg_name (i := 2) sc_is_amount.nd rfl (.inl rfl)) pgs_nil))))
 (pss_cons (ps_if (PW.pt (pw_or (pt_not (pt_val (pe_ca C_is_integer hr (pa_cons (pv 1) pa_nil)))) (pw_or (pt_cmpR op_lt (pv 1) pe_int (nomark _)) (pw_or1 (pt_not (pt_val (pe_callB call_isi (by rfl) T.f_isinstance (by decide +kernel) (pa_cons (pv 2) (pa_cons (pe_bltn (v := .ty "tuple") (by rfl) T.f_tuple (by decide +kernel) rfl) pa_nil)))))))))
 (pss_one (ps_ret pe_bl))
 pss_nil)
 (pss_cons (ps_if (pt_not (pt_val (pe_callB (cr_all rfl) (by rfl) T.f_all (by decide +kernel) (pa_cons (pe_lc (own := [("part", 3)]) rfl sc_is_amount.nd (pi_tup (pv 2)) (blkOk_by (own := [("part", 3)]) (N := n_is_amount) (sc := (defScope s_is_amount)) (by decide +kernel)) (fun _ _ _ _ _ => (pg_name (i := 3) sc_is_amount.nd rfl (Or.inl rfl) (Or.inr rfl))) (fun _ _ _ _ _ => pts_nil) (fun _ _ _ _ _ => (pe_ca C_is_part hr (pa_cons (pv 3) pa_nil)))) pa_nil))))
 (pss_one (ps_ret pe_bl))
 pss_nil)
 (pss_cons (ps_set (i := 4) sc_is_amount.nd rfl (.inl rfl) (pv 1))
 (pss_cons (ps_for PassesOwn.never rfl (pi_tup (pv 2)) (pg_name (i := 3) sc_is_amount.nd rfl (.inl rfl))
 (pss_one (ps_set (i := 4) sc_is_amount.nd rfl (.inl rfl) (pe_callBfun cr_gcd (by rfl) T.b_gcd (pa_cons (pv 4) (pa_cons (pe_ix ix_tup (pv 3) pe_int (fun _ _ => rfl)) pa_nil))))))
 (pss_one (ps_ret (pe_and (pe_cmpR op_eq (pv 4) pe_int (nomark _)) (pe_one (pe_ca C_is_ascending hr (pa_cons (pe_lc (own := [("part", 3)]) rfl sc_is_amount.nd (pi_tup (pv 2)) (blkOk_by (own := [("part", 3)]) (N := n_is_amount) (sc := (defScope s_is_amount)) (by decide +kernel)) (fun _ _ _ _ _ => (pg_name (i := 3) sc_is_amount.nd rfl (Or.inl rfl) (Or.inr rfl))) (fun _ _ _ _ _ => pts_nil) (fun _ _ _ _ _ => (pe_ix (ix_tupK (K := K)) (pv 3) pe_int (fun _ _ => rfl)))) pa_nil)))))))))))), ?_⟩
    have d1 := ok.cn.d1
    have rl : rs.length = L.length := Paired.length h3
    have ll := ok.len
    refine ⟨_, rfl, a, _, 2, rfl, h1, ?_⟩
    refine ⟨_, rfl, iteF ?_⟩
    refine ⟨_, rfl, a, _, rfl, h1, rfl, _, _, rfl, _, [], rfl, rfl, ?_⟩
    refine ⟨_, rfl, ?_⟩
    walk_at "isint"
    refine ⟨true, rfl, iteF ?_⟩
    have e1 : decide (d < (1 : Int)) = false := decide_eq_false (by omega)
    refine ⟨_, rfl, _, _, rfl, rfl, _, rfl, ?_⟩
    rw [e1]
    refine iteF ?_
    refine ⟨_, rfl, _, .ty "tuple", _, _, true, rfl, .ty "tuple", tyx_tup h2, kit_ty (by decide +kernel), true, rfl, iteF ?_⟩
    refine ⟨_, rfl, b, rfl, ⟨_, h2⟩, fun D nD => ?_⟩
    refine lc_tup (xs := rs.map V.ref) (fun i H' => Same H H' ∧ H' D = some (.lst ((List.replicate i true).map V.bl))) ?_ ?_ ?_ ?_
    · exact ⟨same_new nD, upd_same⟩
    · rintro i H' _ ⟨sm, _⟩; exact SqT.same sm h2
    · rintro i x H' hx ⟨sm, hD⟩
      obtain ⟨r, hr1, rfl⟩ := map_at hx
      obtain ⟨u, hu, hut⟩ := Paired.at' h3 hr1
      have um := List.mem_of_getElem? hu
      obtain ⟨p, pe, pp, pl⟩ := ok.cn.pr u um
      refine ⟨rfl, ?_⟩
      refine ⟨_, rfl, r, p, u.2, rfl, by rw [← pe]; exact SqT.same sm hut, pp, pl, ok.cn.nz u um, fun H3 s3 => ?_⟩
      refine ⟨_, s3 _ _ hD, ?_, same_write nD (sm.trans s3), ?_⟩
      · have := (List.getElem?_eq_some_iff.mp hr1).1
        rw [List.length_map, List.length_replicate, sizeLine_eq]; omega
      · rw [upd_same, List.replicate_succ', List.map_append]; rfl
    · rintro H2 ⟨sm, hD⟩
      refine ⟨D, _, rfl, .inl (.inl hD), true, by simp, iteF ?_⟩
      refine ⟨_, rfl, ?_⟩
      refine ⟨_, rfl, b, rfl, ⟨_, SqT.same sm h2⟩, ?_⟩
      refine for_tup (xs := rs.map V.ref) (fun i σ H' => ∃ y3, σ = [some (.ref a), some (.int d), some (.ref b), y3, some (.int (gl d ((L.take i).map (·.2))))] ∧ H' = H2) ⟨_, rfl, rfl⟩ ?_ ?_ ?_
      · rintro i σ H' _ ⟨_, _, rfl⟩; exact SqT.same sm h2
      · rintro i x σ H' hx ⟨y3, rfl, rfl⟩
        obtain ⟨r, hr1, rfl⟩ := map_at hx
        obtain ⟨u, hu, hut⟩ := Paired.at' h3 hr1
        refine ⟨_, rfl, _, rfl, r, _, 1, _, rfl, rfl, SqT.same sm hut, atI_nat (j := 1) rfl, _, _, rfl, ⟨some (.ref r), ?_, rfl⟩⟩
        rw [take_snoc _ hu, gl_snoc]
        rfl
      · rintro σ H' ⟨y3, rfl, rfl⟩
        rw [List.length_map, rl, List.take_of_length_le (Nat.le_refl _), ok.cn.gcd]
        refine ⟨_, rfl, rfl, true, rfl, iteT ?_⟩
        refine ⟨_, rfl, b, rfl, ⟨_, SqT.same sm h2⟩, fun D2 nD2 => ?_⟩
        refine lc_tup (xs := rs.map V.ref) (fun i H' => Same H H' ∧ H' D2 = some (.lst (((L.take i).map (·.1)).map V.int))) ?_ ?_ ?_ ?_
        · exact ⟨sm.trans (same_new nD2), upd_same⟩
        · rintro i H' _ ⟨sm, _⟩; exact SqT.same sm h2
        · rintro i x H3 hx ⟨sm3, hD3⟩
          obtain ⟨r, hr1, rfl⟩ := map_at hx
          obtain ⟨u, hu, hut⟩ := Paired.at' h3 hr1
          refine ⟨rfl, ?_⟩
          refine ⟨_, rfl, r, _, 0, _, rfl, rfl, SqT.same sm3 hut, atI_nat (j := 0) rfl, _, hD3, ?_, same_write (sm.free nD2) sm3, ?_⟩
          · rw [List.length_map, List.length_map, List.length_take, sizeLine_eq]; omega
          · rw [upd_same, take_snoc _ hu, List.map_append]; rfl
        · rintro H3 ⟨sm3, hD3⟩
          rw [List.length_map, rl, List.take_of_length_le (Nat.le_refl _)] at hD3
          refine ⟨D2, L.map (·.1), rfl, .inl (.inl hD3), ?_, by rw [List.length_map]; omega, fun H4 s4 => q H4 (sm3.trans s4)⟩
          rw [List.pairwise_map]
          exact ok.cn.asc
theorem ca_require_amount (T : Tx K mg) : Ca P w K mg base 5 "require_amount" s_require_amount ["thing"] (spReqAmount K) := by
  have C_is_amount := ca_is_amount (P := P) (w := w) (base := base) T
  refine Ca.of (fd_require_amount T) sc_require_amount ?_ ?_
  · rintro vs H Q E ⟨v, d, L, rfl, _⟩; rfl
  · rintro f cdv A out s H vs Q E hr ⟨v, d, L, rfl, ha, ok, q⟩
    refine ⟨_, (pss_one (ps_if (pt_not (pt_val (pe_ca C_is_amount hr (pa_cons (pv 0) pa_nil))))
 (pss_one ps_never)
 pss_nil)), ?_⟩
    refine ⟨_, rfl, v, d, L, rfl, ha, ok, fun H' s' => ⟨true, rfl, iteF ?_⟩⟩
    exact q H' s'
def spReqNumber : Sp := fun vs H Q _ => ∃ (i lo hi : Int), vs = [.int i, .int lo, .int hi] ∧ lo ≤ i ∧ i ≤ hi ∧ Q .non H
theorem ca_require_number (T : Tx K mg) : Ca P w K mg base 3 "require_number" s_require_number ["thing", "low", "high"] spReqNumber := by
  have C_is_integer_in := ca_is_integer_in (P := P) (w := w) (base := base) T
  refine Ca.of (fd_require_number T) sc_require_number ?_ ?_
  · rintro vs H Q E ⟨i, lo, hi, rfl, _⟩; rfl
  · rintro f cdv A out s H vs Q E hr ⟨i, lo, hi, rfl, h1, h2, q⟩
    refine ⟨_, (pss_one (ps_if (pt_not (pt_val (pe_ca C_is_integer_in hr (pa_cons (pv 0) (pa_cons (pv 1) (pa_cons (pv 2) pa_nil))))))
 (pss_one ps_never)
 pss_nil)), ?_⟩
    refine ⟨_, rfl, _, rfl, _, rfl, i, lo, hi, rfl, ?_⟩
    exact ⟨true, by rw [decide_eq_true (⟨h1, h2⟩ : lo ≤ i ∧ i ≤ hi)], iteF q⟩
/-- the logarithm of n -/
noncomputable def lo1 (n : Nat) (p : Int) : Int := lg [(1, (n : Int))] p
def spAmountOf (K : PySem.W.Frag) : Sp := fun vs H Q _ => ∃ n : Nat, vs = [.int n] ∧ 0 < n ∧ n ≤ 900000 ∧ ∀ v d L H', Same H H' → AmtAt K H' v d L → St4 d L 1 (lo1 n) → Q v H'
def spSpread (K : PySem.W.Frag) : Sp := fun vs H Q _ => ∃ (a : Addr) (ns : List Int), vs = [.ref a] ∧ SqT K H a (ns.map V.int) ∧ Cts ns ∧ (∀ n ∈ ns, n ≤ 999) ∧
  ∀ v d L H', Same H H' → AmtAt K H' v d L → St4 d L ns.sum (lg (sprM ns)) → Q v H'
end
end K07

namespace K07
open PySem PySem.Spec PyProof.Rows L2 Ly Am
section
/-- an amount that stands for f / B, prime by prime -/
def Val (K : PySem.W.Frag) (H : Hp) (v : V) (B : Int) (f : Int → Int) : Prop := ∃ d L, AmtAt K H v d L ∧ St4 d L B f
theorem Val.same {K : PySem.W.Frag} {H H' : Hp} {v : V} {B : Int} {f : Int → Int} (s : Same H H') (h : Val K H v B f) : Val K H' v B f := by
  obtain ⟨d, L, h1, h2⟩ := h
  exact ⟨d, L, h1.same s, h2⟩
theorem Val.kp {K : PySem.W.Frag} {H H' : Hp} {v : V} {B : Int} {f : Int → Int} (s : Kp H H') (h : Val K H v B f) : Val K H' v B f := by
  obtain ⟨d, L, h1, h2⟩ := h
  exact ⟨d, L, h1.kp s, h2⟩
structure Bd (B : Int) (f : Int → Int) : Prop where
  pos : 0 < B
  bl : B < 2 ^ 50
  key : ∀ p, f p ≠ 0 → p ≤ 1000
  par : ∀ p, (f p).natAbs < 2 ^ 50
theorem Bd.ok {B d : Int} {f : Int → Int} {L : List (Int × Int)} (b : Bd B f) (s : St4 d L B f) : AmOk d L := by
  refine ⟨s.1, by have := s.le b.pos; have := b.bl; omega, fun q hq => b.key _ (s.zero b.pos hq), fun q hq => ?_⟩
  have h1 := s.abs b.pos q.1
  rw [ig_mem (asc_nodup s.1.asc) hq] at h1
  have := b.par q.1
  omega
theorem St4.congr {d B C : Int} {L : List (Int × Int)} {f g : Int → Int} (s : St4 d L B f) (hB : 0 < B) (h : ∀ p, f p * C = g p * B) : St4 d L C g := by
  refine ⟨s.1, fun p => ?_⟩
  have h1 := s.2 p
  have h2 : (ig L p * C) * B = (g p * d) * B := by
    calc (ig L p * C) * B = (ig L p * B) * C := by rw [Int.mul_right_comm]
      _ = (f p * C) * d := by rw [h1, Int.mul_right_comm]
      _ = (g p * d) * B := by rw [h p, Int.mul_right_comm]
  exact Int.eq_of_mul_eq_mul_right (by omega) h2
theorem Val.congr {K : PySem.W.Frag} {H : Hp} {v : V} {B C : Int} {f g : Int → Int} (h : Val K H v B f) (hB : 0 < B) (e : ∀ p, f p * C = g p * B) : Val K H v C g := by
  obtain ⟨d, L, h1, h2⟩ := h
  exact ⟨d, L, h1, St4.congr h2 hB e⟩
theorem comb_val {d d1 d2 B : Int} {L L1 L2 : List (Int × Int)} {f1 f2 : Int → Int} {s : Int} (h1 : St4 d1 L1 B f1) (h2 : St4 d2 L2 B f2) (hB : 0 < B)
    (h : St4 d L (lcms 1 [(1, d1, L1), (s, d2, L2)]) (cf (lcms 1 [(1, d1, L1), (s, d2, L2)]) [(1, d1, L1), (s, d2, L2)])) : St4 d L B (fun p => f1 p + s * f2 p) := by
  have c1 := h1.1.d1
  have c2 := h2.1.d1
  have hb := lcms_pos [(1, d1, L1), (s, d2, L2)] 1 (by omega) (by
    intro t ht
    rcases List.mem_cons.mp ht with e | ht
    · rw [e]; exact c1
    · rcases List.mem_cons.mp ht with e | ht
      · rw [e]; exact c2
      · cases ht)
  have dv := (lcms_dvd [(1, d1, L1), (s, d2, L2)] 1).2
  have v1 := dv (1, d1, L1) (by simp)
  have v2 := dv (s, d2, L2) (by simp)
  generalize lcms 1 [(1, d1, L1), (s, d2, L2)] = C at *
  refine St4.congr h hb fun p => ?_
  obtain ⟨x, hx⟩ := v1
  obtain ⟨y, hy⟩ := v2
  have e1 : C / d1 = x := by rw [hx]; exact Int.mul_ediv_cancel_left _ (by show d1 ≠ 0; omega)
  have e2 : C / d2 = y := by rw [hy]; exact Int.mul_ediv_cancel_left _ (by show d2 ≠ 0; omega)
  have g1 := h1.2 p
  have g2 := h2.2 p
  have e3 : cf C [(1, d1, L1), (s, d2, L2)] p = 1 * (C / d1) * ig L1 p + (s * (C / d2) * ig L2 p + 0) := rfl
  rw [e3, e1, e2, Int.add_mul, Int.add_mul, Int.add_mul]
  have k1 : 1 * x * ig L1 p * B = f1 p * C := by
    rw [Int.one_mul, Int.mul_assoc, g1, hx]; show x * (f1 p * d1) = f1 p * (d1 * x)
    rw [Int.mul_comm, Int.mul_assoc]
  have k2 : s * y * ig L2 p * B = s * f2 p * C := by
    rw [Int.mul_assoc, g2, hy]; show s * y * (f2 p * d2) = s * f2 p * (d2 * y)
    rw [Int.mul_assoc, Int.mul_assoc]; congr 1; rw [Int.mul_left_comm, Int.mul_comm y d2]
  rw [k1, k2, Int.zero_mul, Int.add_zero]
end
section
variable {P : Program} {w : World} {K : PySem.W.Frag} {mg : Str → Option Value} {base : Heap}
def spPM (K : PySem.W.Frag) (s : Int) : Sp := fun vs H Q _ => ∃ (v1 v2 : V) (B : Int) (f1 f2 : Int → Int), vs = [v1, v2] ∧ Val K H v1 B f1 ∧ Val K H v2 B f2 ∧ Bd B f1 ∧ Bd B f2 ∧
  ∀ v H', Same H H' → Val K H' v B (fun p => f1 p + s * f2 p) → Q v H'
theorem lcms2_le {d1 d2 B s : Int} {L1 L2 : List (Int × Int)} (h1 : d1 ∣ B) (h2 : d2 ∣ B) (hB : 0 < B) : lcms 1 [(1, d1, L1), (s, d2, L2)] ≤ B := by
  refine Int.le_of_dvd hB ?_
  show (((((1 : Int).natAbs.lcm d1.natAbs : Nat) : Int).natAbs.lcm d2.natAbs : Nat) : Int) ∣ B
  rw [show (1 : Int).natAbs = 1 from rfl, Nat.lcm_eq_right (Nat.one_dvd _)]
  apply Int.natAbs_dvd_natAbs.mp
  rw [Int.natAbs_natCast, Int.natAbs_natCast]
  exact Nat.lcm_dvd (Int.natAbs_dvd_natAbs.mpr h1) (Int.natAbs_dvd_natAbs.mpr h2)
theorem ca_minus (T : Tx K mg) : Ca P w K mg base 6 "minus" s_minus ["one", "other"] (spPM K (-1)) := by
  have C_require_amount := ca_require_amount (P := P) (w := w) (base := base) T
  have C_combined := ca_combined (P := P) (w := w) (base := base) T
  refine Ca.of (fd_minus T) sc_minus ?_ ?_
  · rintro vs H Q E ⟨v1, v2, B, f1, f2, rfl, _⟩; rfl
  · rintro f cdv A out s H vs Q E hr ⟨v1, v2, B, f1, f2, rfl, ⟨d1, L1, a1, t1⟩, ⟨d2, L2, a2, t2⟩, b1, b2, q⟩
    refine ⟨_, (pss_cons (ps_expr (pe_ca C_require_amount hr (pa_cons (pv 0) pa_nil)))
 (pss_cons (ps_expr (pe_ca C_require_amount hr (pa_cons (pv 1) pa_nil)))
 (pss_one (ps_ret (pe_ca C_combined hr (pa_cons (pe_lst (pa_cons (pe_tup (pa_cons pe_int (pa_cons (pv 0) pa_nil))) (pa_cons (pe_tup (pa_cons (pe_un un_neg pe_int) (pa_cons (pv 1) pa_nil))) pa_nil))) pa_nil)))))), ?_⟩
    have ok1 := b1.ok t1
    have ok2 := b2.ok t2
    refine ⟨_, rfl, v1, d1, L1, rfl, a1, ok1, fun H1 s1 => ?_⟩
    refine ⟨_, rfl, v2, d2, L2, rfl, a2.same s1, ok2, fun H2 s2 => ?_⟩
    have z1 : 2 ≤ sizeLine := by rw [sizeLine_eq]; omega
    refine ⟨_, rfl, z1, fun p1 np1 => ⟨_, rfl, _, rfl, z1, fun p2 np2 => ⟨z1, fun l nl => ?_⟩⟩⟩
    have s3 := same_new (o := .tup [V.int 1, v1]) np1
    have s4 := same_new (o := .tup [V.int (-1), v2]) np2
    have s5 := same_new (o := .lst [V.ref p1, V.ref p2]) nl
    refine ⟨l, [p1, p2], [(1, d1, L1), (-1, d2, L2)], rfl, sqL_new, .cons ⟨v1, ?_, a1.same (((((s1.trans s2).trans s3).trans s4)).trans s5)⟩ (.cons ⟨v2, ?_, a2.same (((((s1.trans s2).trans s3).trans s4)).trans s5)⟩ .nil), ?_, ?_, fun v d L H3 s6 am st => q v H3 ((((((s1.trans s2).trans s3).trans s4)).trans s5).trans s6) ⟨d, L, am, comb_val t1 t2 b1.pos st⟩⟩
    · exact SqT.same (s4.trans s5) sqT_new
    · exact SqT.same s5 sqT_new
    · intro t ht
      rcases List.mem_cons.mp ht with e | ht
      · rw [e]; exact ⟨ok1.cn, by show (1 : Int).natAbs < _; decide, ok1.key, ok1.par⟩
      · rcases List.mem_cons.mp ht with e | ht
        · rw [e]; exact ⟨ok2.cn, by show (-1 : Int).natAbs < _; decide, ok2.key, ok2.par⟩
        · cases ht
    · have := lcms2_le (L1 := L1) (L2 := L2) (s := -1) (t1.dvd b1.pos) (t2.dvd b1.pos) b1.pos
      have := b1.bl
      omega
theorem ig_scale (t : Int) (L : List (Int × Int)) (p : Int) : ig (L.map fun q => (q.1, q.2 * t)) p = ig L p * t := by
  induction L with
  | nil => show (0 : Int) = 0 * t; rw [Int.zero_mul]
  | cons x r ih =>
    rw [List.map_cons, ig_cons, ig_cons, ih]
    show (if p = x.1 then x.2 * t else _) = _
    split <;> rfl
def spTimes (K : PySem.W.Frag) : Sp := fun vs H Q _ => ∃ (v : V) (B : Int) (f : Int → Int) (t b : Int), vs = [v, .int t, .int b] ∧ Val K H v B f ∧ Bd B f ∧ -1000 ≤ t ∧ t ≤ 1000 ∧ 0 < b ∧ b ≤ 1000 ∧
  ∀ v H', Same H H' → Val K H' v (B * b) (fun p => f p * t) → Q v H'
/-- which of the products is greater -/
def sgn (L : List (Int × Int)) : Int := if up 1 L = dn 1 L then 0 else if dn 1 L < up 1 L then 1 else -1
def spSignOf (K : PySem.W.Frag) : Sp := fun vs H Q _ => ∃ (v : V) (d : Int) (L : List (Int × Int)) (n : Nat), vs = [v] ∧ AmtAt K H v d L ∧ AmOk d L ∧ Fits n 1 L ∧ ∀ H', Same H H' → Q (.int (sgn L)) H'
theorem ca_sign_of (T : Tx K mg) : Ca P w K mg base 6 "sign_of" s_sign_of ["amount"] (spSignOf K) := by
  have C_require_amount := ca_require_amount (P := P) (w := w) (base := base) T
  have C_products_of := ca_products_of (P := P) (w := w) (base := base) T
  refine Ca.of (fd_sign_of T) sc_sign_of ?_ ?_
  · rintro vs H Q E ⟨v, d, L, n, rfl, _⟩; rfl
  · rintro f cdv A out s H vs Q E hr ⟨v, d, L, n, rfl, ha, ok, ft, q⟩
    refine ⟨_, (pss_cons (ps_expr (pe_ca C_require_amount hr (pa_cons (pv 0) pa_nil)))
 (pss_cons (ps_asg (pe_ca C_products_of hr (pa_cons (pe_ix ix_tup (pv 0) pe_int (fun _ _ => rfl)) (pa_cons pe_int pa_nil))) (pg_tup rfl (pgs_cons (pg_name (i := 1) sc_sign_of.nd rfl (.inl rfl)) (pgs_cons (pg_name (i := 2) sc_sign_of.nd rfl (.inl rfl)) pgs_nil))))
 (pss_cons (ps_if (pt_cmpR op_eq (pv 1) (pv 2) (nomark _))
 (pss_one (ps_ret pe_int))
 pss_nil)
 (pss_one (ps_ret (pe_ifExp (pt_cmpR op_gt (pv 1) (pv 2) (nomark _)) pe_int (pe_un un_neg pe_int))))))), ?_⟩
    refine ⟨_, rfl, v, d, L, rfl, ha, ok, fun H1 s1 => ?_⟩
    obtain ⟨a, b2, rs, rfl, h1, h2, h3⟩ := ha.same s1
    refine ⟨_, rfl, a, _, 1, _, rfl, rfl, h1, atI_nat (j := 1) rfl, ?_⟩
    refine ⟨b2, rs, L, 1, n, rfl, h2, h3, ft, fun t H2 s2 ht => ?_⟩
    refine ⟨t, _, rfl, ht, rfl, _, _, rfl, _, [], rfl, rfl, ?_⟩
    refine ⟨_, rfl, _, rfl, rfl, _, rfl, ite2 (fun c => ?_) (fun c => ?_)⟩
    · have e : up 1 L = dn 1 L := V.int.inj (of_decide_eq_true c)
      have z := q H2 (s1.trans s2)
      unfold sgn at z
      rw [if_pos e] at z
      exact z
    · have e : ¬ up 1 L = dn 1 L := fun z => c (decide_eq_true (congrArg V.int z))
      have z := q H2 (s1.trans s2)
      unfold sgn at z
      rw [if_neg e] at z
      refine ⟨_, rfl, _, rfl, _, _, rfl, rfl, _, rfl, ite2 (fun c => ?_) (fun c => ?_)⟩
      · have c' : dn 1 L < up 1 L := of_decide_eq_true c
        rw [if_pos c'] at z; exact z
      · have c' : ¬ dn 1 L < up 1 L := fun z => c (decide_eq_true z)
        rw [if_neg c'] at z; exact ⟨_, rfl, z⟩
def spIsBelow (K : PySem.W.Frag) : Sp := fun vs H Q _ => ∃ (v1 v2 : V) (B : Int) (f1 f2 : Int → Int) (n : Nat), vs = [v1, v2] ∧ Val K H v1 B f1 ∧ Val K H v2 B f2 ∧ Bd B f1 ∧ Bd B f2 ∧ Bd B (fun p => f1 p + -1 * f2 p) ∧
  (∀ d L, St4 d L B (fun p => f1 p + -1 * f2 p) → Fits n 1 L) ∧ ∀ d L H', Same H H' → St4 d L B (fun p => f1 p + -1 * f2 p) → Q (.bl (decide (up 1 L < dn 1 L))) H'
theorem ca_is_below (T : Tx K mg) : Ca P w K mg base 7 "is_below" s_is_below ["one", "other"] (spIsBelow K) := by
  have C_minus := ca_minus (P := P) (w := w) (base := base) T
  have C_sign_of := ca_sign_of (P := P) (w := w) (base := base) T
  refine Ca.of (fd_is_below T) sc_is_below ?_ ?_
  · rintro vs H Q E ⟨v1, v2, B, f1, f2, n, rfl, _⟩; rfl
  · rintro f cdv A out s H vs Q E hr ⟨v1, v2, B, f1, f2, n, rfl, a1, a2, b1, b2, b3, ft, q⟩
    refine ⟨_, (pss_one (ps_ret (pe_cmpR op_lt (pe_ca C_sign_of hr (pa_cons (pe_ca C_minus hr (pa_cons (pv 0) (pa_cons (pv 1) pa_nil))) pa_nil)) pe_int (nomark _)))), ?_⟩
    refine ⟨_, rfl, _, rfl, v1, v2, B, f1, f2, rfl, a1, a2, b1, b2, fun v H1 s1 ⟨d, L, am, st⟩ => ?_⟩
    refine ⟨v, d, L, n, rfl, am, b3.ok st, ft d L st, fun H2 s2 => ?_⟩
    refine ⟨_, _, rfl, rfl, ?_⟩
    have z := q d L H2 (s1.trans s2) st
    have e : decide (sgn L < 0) = decide (up 1 L < dn 1 L) := by
      apply decide_eq_decide.mpr
      unfold sgn
      split
      · omega
      · split <;> omega
    rw [← e] at z
    exact z
end
end K07

namespace K07
open PySem PySem.Spec PyProof.Rows L2 Ly Am
/-- 2 ^ e is at most a / b -/
def le2 (e a b : Int) : Prop := b * 2 ^ e.toNat ≤ a * 2 ^ (-e).toNat
theorem bits_nat {n : Nat} (h : 0 < n) : Builtin.Int.intBits (n : Int) = n.log2 + 1 := by
  unfold Builtin.Int.intBits
  rw [if_neg (by simp; omega)]
  rw [Int.natAbs_natCast]
theorem ge_bits {a b A B x y : Nat} (ha : a < 2 ^ A) (hb : 2 ^ (B - 1) ≤ b) (hB : 0 < B) (h : A + x ≤ B - 1 + y) : a * 2 ^ x < b * 2 ^ y := by
  have h1 : a * 2 ^ x < 2 ^ A * 2 ^ x := Nat.mul_lt_mul_of_pos_right ha (Nat.two_pow_pos x)
  have h2 : 2 ^ (B - 1) * 2 ^ y ≤ b * 2 ^ y := Nat.mul_le_mul_right _ hb
  rw [← Nat.pow_add] at h1 h2
  have h3 : 2 ^ (A + x) ≤ 2 ^ (B - 1 + y) := Nat.pow_le_pow_right (by omega) h
  omega
theorem le2_nat {e : Int} {a b : Nat} : le2 e a b ↔ b * 2 ^ e.toNat ≤ a * 2 ^ (-e).toNat := by
  unfold le2
  have e1 : ((b : Int) * 2 ^ e.toNat) = ((b * 2 ^ e.toNat : Nat) : Int) := by simp
  have e2 : ((a : Int) * 2 ^ (-e).toNat) = ((a * 2 ^ (-e).toNat : Nat) : Int) := by simp
  rw [e1, e2]; omega
theorem guess_ok {a b : Nat} (ha : 0 < a) (hb : 0 < b) : ¬ le2 ((a.log2 + 1 : Nat) - (b.log2 + 1 : Nat) + 1) a b ∧ le2 ((a.log2 + 1 : Nat) - (b.log2 + 1 : Nat) - 1) a b := by
  have a1 := Nat.log2_self_le (n := a) (by omega)
  have a2 : a < 2 ^ (a.log2 + 1) := Nat.lt_log2_self
  have b1 := Nat.log2_self_le (n := b) (by omega)
  have b2 : b < 2 ^ (b.log2 + 1) := Nat.lt_log2_self
  rw [le2_nat, le2_nat]
  refine ⟨fun z => ?_, ?_⟩
  · have := ge_bits (A := a.log2 + 1) (B := b.log2 + 1) a2 b1 (by omega) (x := (-((a.log2 + 1 : Nat) - (b.log2 + 1 : Nat) + 1 : Int)).toNat) (y := ((a.log2 + 1 : Nat) - (b.log2 + 1 : Nat) + 1 : Int).toNat) (by omega)
    omega
  · have := ge_bits (A := b.log2 + 1) (B := a.log2 + 1) b2 a1 (by omega) (x := ((a.log2 + 1 : Nat) - (b.log2 + 1 : Nat) - 1 : Int).toNat) (y := (-((a.log2 + 1 : Nat) - (b.log2 + 1 : Nat) - 1 : Int)).toNat) (by omega)
    omega
section
variable {P : Program} {w : World} {K : PySem.W.Frag} {mg : Str → Option Value} {base : Heap}
def spGreatest : Sp := fun vs H Q _ => ∃ (a b : Nat), vs = [.int a, .int b] ∧ 0 < a ∧ 0 < b ∧ a.log2 < 1000000 ∧ b.log2 < 1000000 ∧ ∀ e : Int, le2 e a b → ¬ le2 (e + 1) a b → e.natAbs ≤ 1000000 → Q (.int e) H
theorem ca_greatest_power (T : Tx K mg) : Ca P w K mg base 1 "greatest_power" s_greatest_power ["above", "below"] spGreatest := by
  refine Ca.of (fd_greatest_power T) sc_greatest_power ?_ ?_
  · rintro vs H Q E ⟨a, b, rfl, _⟩; rfl
  · rintro f cdv A out s H vs Q E hr ⟨a, b, rfl, a0, b0, al, bl, q⟩
    refine ⟨_, (pss_cons (ps_set (i := 2) sc_greatest_power.nd rfl (.inl rfl) (pe_op op_sub (pe_bits (pv 0)) (pe_bits (pv 1))))
 (pss_cons (ps_if (pt_cmpR op_ge (pv 2) pe_int (nomark _))
 (pss_one (ps_set (i := 3) sc_greatest_power.nd rfl (.inl rfl) (pe_cmpR op_le (pe_op op_shlW (pv 1) (pv 2)) (pv 0) (nomark _))))
 (pss_one (ps_set (i := 3) sc_greatest_power.nd rfl (.inl rfl) (pe_cmpR op_le (pv 1) (pe_op op_shlW (pv 0) (pe_un un_neg (pv 2))) (nomark _)))))
 (pss_one (ps_ret (pe_ifExp (pt_val (pv 3)) (pv 2) (pe_op op_sub (pv 2) pe_int)))))), ?_⟩
    obtain ⟨g1, g2⟩ := guess_ok a0 b0
    have a2 : a < 2 ^ (a.log2 + 1) := Nat.lt_log2_self
    have b2 : b < 2 ^ (b.log2 + 1) := Nat.lt_log2_self
    refine ⟨_, rfl, _, rfl, _, rfl, _, rfl, _, _, rfl, rfl, ?_⟩
    dsimp only
    rw [bits_nat a0, bits_nat b0]
    obtain ⟨g, eg⟩ : ∃ g : Int, ((a.log2 + 1 : Nat) : Int) - ((b.log2 + 1 : Nat) : Int) = g := ⟨_, rfl⟩
    rw [eg] at g1 g2 ⊢
    have gl : g.natAbs < 1000000 := by omega
    have ends : ∀ (k : Bool), (k = true ↔ le2 g a b) → ∀ e : Int, (e = if k = true then g else g - 1) → Q (.int e) H := by
      intro k hk e he
      cases k with
      | true => rw [if_pos rfl] at he; rw [he]; exact q g (hk.mp rfl) g1 (by omega)
      | false =>
        rw [if_neg (by decide)] at he
        rw [he]
        refine q (g - 1) g2 ?_ (by omega)
        rw [Int.sub_add_cancel]
        exact fun z => Bool.false_ne_true (hk.mpr z)
    refine ⟨_, rfl, _, _, rfl, rfl, _, rfl, ite2 (fun c => ?_) (fun c => ?_)⟩
    · have g0 : 0 ≤ g := of_decide_eq_true c
      refine ⟨_, rfl, _, rfl, _, _, rfl, rfl, ?_, _, rfl, _, _, rfl, rfl, ?_⟩
      · have := shl_ok (i := (b : Int)) (j := g.toNat) (n := b.log2 + 1) (by rw [Int.natAbs_natCast]; exact b2) (by omega)
        rwa [show ((g.toNat : Nat) : Int) = g by omega] at this
      have hk : decide ((b : Int) * 2 ^ g.toNat ≤ (a : Int)) = true ↔ le2 g a b := by
        rw [decide_eq_true_iff]
        unfold le2
        rw [show (-g).toNat = 0 by omega, Int.pow_zero, Int.mul_one]
      have z := ends _ hk _ rfl
      refine ⟨_, rfl, _, rfl, ite2 (fun c2 => ?_) (fun c2 => ?_)⟩
      · rw [if_pos c2] at z; exact ⟨_, rfl, z⟩
      · rw [if_neg c2] at z; exact ⟨_, rfl, _, _, rfl, rfl, z⟩
    · have g0 : ¬ 0 ≤ g := fun z => c (decide_eq_true z)
      refine ⟨_, rfl, _, rfl, _, rfl, _, rfl, _, _, rfl, rfl, ?_, _, _, rfl, rfl, ?_⟩
      · have := shl_ok (i := (a : Int)) (j := (-g).toNat) (n := a.log2 + 1) (by rw [Int.natAbs_natCast]; exact a2) (by omega)
        rwa [show (((-g).toNat : Nat) : Int) = -g by omega] at this
      have hk : decide ((b : Int) ≤ (a : Int) * 2 ^ (-g).toNat) = true ↔ le2 g a b := by
        rw [decide_eq_true_iff]
        unfold le2
        rw [show g.toNat = 0 by omega, Int.pow_zero, Int.mul_one]
      have z := ends _ hk _ rfl
      refine ⟨_, rfl, _, rfl, ite2 (fun c2 => ?_) (fun c2 => ?_)⟩
      · rw [if_pos c2] at z; exact ⟨_, rfl, z⟩
      · rw [if_neg c2] at z; exact ⟨_, rfl, _, _, rfl, rfl, z⟩
theorem upk_pos {k : Nat} {L : List (Int × Int)} (h : ∀ q ∈ L, 0 < q.1) : 0 < up k L ∧ 0 < dn k L := by
  induction L with
  | nil => exact ⟨by show (0 : Int) < 1; omega, by show (0 : Int) < 1; omega⟩
  | cons q r ih =>
    obtain ⟨h1, h2⟩ := ih fun z hz => h z (List.mem_cons_of_mem _ hz)
    have q0 : 0 < q.1 ^ (k * q.2.natAbs) := ipp _ (h q List.mem_cons_self)
    refine ⟨?_, ?_⟩
    · show 0 < (if 0 < q.2 then q.1 ^ (k * q.2.natAbs) else 1) * up k r
      refine Int.mul_pos ?_ h1
      split
      · exact q0
      · omega
    · show 0 < (if 0 < q.2 then 1 else q.1 ^ (k * q.2.natAbs)) * dn k r
      refine Int.mul_pos ?_ h2
      split
      · omega
      · exact q0
def spSteps (K : PySem.W.Frag) : Sp := fun vs H Q _ => ∃ (v : V) (d : Int) (L : List (Int × Int)) (k n : Nat), vs = [v, .int k] ∧ AmtAt K H v d L ∧ AmOk d L ∧ 0 < k ∧ k ≤ 100 ∧ Fits n k L ∧
  ∀ e H', Same H H' → le2 e (up k L) (dn k L) → ¬ le2 (e + 1) (up k L) (dn k L) → Q (.int (e / d)) H'
theorem ca_steps_of (T : Tx K mg) : Ca P w K mg base 6 "steps_of" s_steps_of ["amount", "k"] (spSteps K) := by
  have C_require_amount := ca_require_amount (P := P) (w := w) (base := base) T
  have C_require_number := ca_require_number (P := P) (w := w) (base := base) T
  have C_products_of := ca_products_of (P := P) (w := w) (base := base) T
  have C_greatest_power := ca_greatest_power (P := P) (w := w) (base := base) T
  refine Ca.of (fd_steps_of T) sc_steps_of ?_ ?_
  · rintro vs H Q E ⟨v, d, L, k, n, rfl, _⟩; rfl
  · rintro f cdv A out s H vs Q E hr ⟨v, d, L, k, n, rfl, ha, ok, k0, k1, ft, q⟩
    refine ⟨_, (pss_cons (ps_expr (pe_ca C_require_amount hr (pa_cons (pv 0) pa_nil)))
 (pss_cons (ps_expr (pe_ca C_require_number hr (pa_cons (pv 1) (pa_cons pe_int (pa_cons (pe_globI T.i_MOST_K) pa_nil)))))
 (pss_cons (ps_asg (pe_ca C_products_of hr (pa_cons (pe_ix ix_tup (pv 0) pe_int (fun _ _ => rfl)) (pa_cons (pv 1) pa_nil))) (pg_tup rfl (pgs_cons (pg_name (i := 2) sc_steps_of.nd rfl (.inl rfl)) (pgs_cons (pg_name (i := 3) sc_steps_of.nd rfl (.inl rfl)) pgs_nil))))
 (pss_one (ps_ret (pe_op op_fdivW (pe_ca C_greatest_power hr (pa_cons (pv 2) (pa_cons (pv 3) pa_nil))) (pe_ix ix_tup (pv 0) pe_int (fun _ _ => rfl)))))))), ?_⟩
    refine ⟨_, rfl, v, d, L, rfl, ha, ok, fun H1 s1 => ?_⟩
    refine ⟨_, rfl, k, 1, 100, rfl, by omega, by omega, ?_⟩
    obtain ⟨a, b2, rs, rfl, h1, h2, h3⟩ := ha.same s1
    refine ⟨_, rfl, a, _, 1, _, rfl, rfl, h1, atI_nat (j := 1) rfl, ?_⟩
    refine ⟨_, rfl, b2, rs, L, k, n, rfl, h2, h3, ft, fun t H2 s2 ht => ?_⟩
    refine ⟨t, _, rfl, ht, rfl, _, _, rfl, _, [], rfl, rfl, ?_⟩
    have lp : ∀ q ∈ L, 0 < q.1 := fun q hq => (ft.pos q hq).1
    obtain ⟨u0, d0⟩ := upk_pos (k := k) lp
    have ba : ∀ q ∈ L, q.1.natAbs < 2 ^ n := fun q hq => by
      obtain ⟨a1, a2⟩ := ft.pos q hq
      have e2 : ((2 : Int) ^ n) = ((2 ^ n : Nat) : Int) := by simp
      omega
    have ub := up_bits (k := k) ba
    have db := dn_bits (k := k) ba
    have all := ft.all
    have lg2 : ∀ x : Int, 0 < x → x.natAbs < 2 ^ (n * (k * cost L) + L.length + 1) → x.toNat.log2 < 1000000 := fun x x0 h => by
      have e : x.toNat = x.natAbs := by omega
      have : x.toNat.log2 < n * (k * cost L) + L.length + 1 := (Nat.log2_lt (by omega)).mpr (by omega)
      omega
    have eu : ((up k L).toNat : Int) = up k L := by omega
    have ed : ((dn k L).toNat : Int) = dn k L := by omega
    have dl := ok.dl
    have d1 := ok.cn.d1
    refine ⟨_, rfl, _, rfl, (up k L).toNat, (dn k L).toNat, by rw [eu, ed]; rfl, by omega, by omega, lg2 _ u0 ub, lg2 _ d0 db, fun e g1 g2 _ => ?_⟩
    rw [eu, ed] at g1 g2
    have dlog : d.natAbs.log2 < 9000 := by
      have : d.natAbs.log2 < 65 := (Nat.log2_lt (by omega)).mpr (by omega)
      omega
    refine ⟨_, rfl, a, _, 0, _, rfl, rfl, SqT.same s2 h1, atI_nat (j := 0) rfl, _, _, rfl, rfl, ⟨d1, dlog⟩, ?_⟩
    exact q e H2 (s1.trans s2) g1 g2
end
end K07

namespace K07
open PySem PySem.Spec PyProof.Rows L2 Ly Am
section
/-- the deck at D, its cells at C, no more than n draws so far -/
def deckK (C : Addr) (m k : Int) : List (Key × V) := [(Sum.inr "cells", V.ref C), (Sum.inr "mixed", V.int m), (Sum.inr "draws", V.int k)]
structure DeckAt (H : Hp) (D C : Addr) (n : Nat) : Prop where
  ex : ∃ (cs : List Int) (m k : Int), H D = some (.dK (deckK C m k)) ∧ H C = some (.lst (cs.map V.int)) ∧ cs.length ≤ 1000 ∧ 0 ≤ m ∧ m < 2147483563 ∧ 0 ≤ k ∧ k ≤ n
/-- all is kept but the deck -/
def Ot (D C : Addr) (H H' : Hp) : Prop := ∀ b o, H b = some o → b ≠ D → b ≠ C → H' b = some o
theorem Ot.refl (D C : Addr) (H : Hp) : Ot D C H H := fun _ _ e _ _ => e
theorem Ot.trans {D C : Addr} {H H1 H2 : Hp} (a : Ot D C H H1) (b : Ot D C H1 H2) : Ot D C H H2 := fun c o e h1 h2 => b c o (a c o e h1 h2) h1 h2
theorem Ot.of {D C : Addr} {H H' : Hp} (s : Same H H') : Ot D C H H' := fun b o e _ _ => s b o e
theorem Ot.kp {D C : Addr} {H H' : Hp} {n : Nat} (d : DeckAt H D C n) (h : Ot D C H H') : Kp H H' := fun b o e h1 h2 => by
  obtain ⟨cs, m, k, hD, hC, _⟩ := d.ex
  refine h b o e ?_ ?_
  · rintro rfl; rw [hD] at e; exact h2 _ (Option.some.inj e).symm
  · rintro rfl; rw [hC] at e; exact h1 _ (Option.some.inj e).symm
theorem DeckAt.same {H H' : Hp} {D C : Addr} {n : Nat} (s : Same H H') (d : DeckAt H D C n) : DeckAt H' D C n := by
  obtain ⟨cs, m, k, hD, hC, r⟩ := d.ex
  exact ⟨cs, m, k, s _ _ hD, s _ _ hC, r⟩
theorem DeckAt.mono {H : Hp} {D C : Addr} {n m : Nat} (h : n ≤ m) (d : DeckAt H D C n) : DeckAt H D C m := by
  obtain ⟨cs, m, k, hD, hC, r1, r2, r3, r4, r5⟩ := d.ex
  exact ⟨cs, m, k, hD, hC, r1, r2, r3, r4, by omega⟩
theorem DeckAt.ne {H : Hp} {D C : Addr} {n : Nat} (d : DeckAt H D C n) : D ≠ C := by
  obtain ⟨cs, m, k, hD, hC, _⟩ := d.ex
  rintro rfl
  rw [hD] at hC
  cases hC
end
section
variable {P : Program} {w : World} {K : PySem.W.Frag} {mg : Str → Option Value} {base : Heap}
def spDeck (K : PySem.W.Frag) : Sp := fun vs H Q _ => ∃ (a : Addr) (ns : List Int), vs = [.ref a] ∧ SqL K H a (ns.map V.int) ∧ ns.length ≤ 63 ∧ ∀ D C H', Same H H' → DeckAt H' D C 0 → Q (.ref D) H'
theorem ca_L_deck (T : Tx K mg) : Ca P w K mg base 1 "_law_deck" s_L_deck ["_law_script"] (spDeck K) := by
  refine Ca.of (fd_L_deck T) sc_L_deck ?_ ?_
  · rintro vs H Q E ⟨a, ns, rfl, _⟩; rfl
  · rintro f cdv A out s H vs Q E hr ⟨a, ns, rfl, hS, hl, q⟩
    refine ⟨_, (pss_cons (ps_set (i := 1) sc_L_deck.nd rfl (.inl rfl) pe_int)
 (pss_cons (ps_for PassesOwn.never rfl (pi_list (pe_slice sl_list (pv 0) po_none (po_some pe_int))) (pg_name (i := 2) sc_L_deck.nd rfl (.inl rfl))
 (pss_one (ps_set (i := 1) sc_L_deck.nd rfl (.inl rfl) (pe_op op_mod (pe_callTy call_int1 (by rfl) T.f_int (by decide +kernel) (pa_cons (pe_op op_add (pe_op op_add (pe_op op_mulW (pv 1) pe_int) (pe_op op_mod (pe_callTy call_int1 (by rfl) T.f_int (by decide +kernel) (pa_cons (pv 2) pa_nil)) pe_int)) pe_int) pa_nil)) pe_int))))
 (pss_one (ps_ret (pe_disp (pps_cons pe_str (pe_revL (pe_callTy call_list_of (by rfl) T.f_list (by decide +kernel) (pa_cons (pe_slice sl_list (pv 0) po_none (po_some pe_int)) pa_nil))) (pps_cons pe_str (pv 1) (pps_cons pe_str pe_int pps_nil))) (by rfl) (by rfl) (fun z => by cases z) (by decide)))))), ?_⟩
    have ec : cutV (ns.map V.int) none (some 63) = ns.map V.int := by
      unfold cutV
      have e1 : HT.sIx (ns.map V.int).length 0 none = 0 := rfl
      have e2 : HT.sIx (ns.map V.int).length (ns.map V.int).length (some 63) = (ns.map V.int).length := by
        rw [List.length_map]; simp [HT.sIx]; omega
      rw [e1, e2, List.drop_zero, List.take_of_length_le (by omega)]
    refine ⟨_, rfl, ?_⟩
    refine ⟨63, rfl, a, _, rfl, hS, fun p np => ?_⟩
    rw [ec]
    have s1 := same_new (o := .lst (ns.map V.int)) np
    refine ⟨p, rfl, ⟨_, sqL_new⟩, ?_⟩
    refine for_list (xs := ns.map V.int) (fun i σ H' => ∃ m y, σ = [some (.ref a), some (.int m), y] ∧ 0 ≤ m ∧ m < 2147483563 ∧ H' = upd H p (.lst (ns.map V.int))) ⟨10889714, none, rfl, by omega, by omega, rfl⟩ ?_ ?_ ?_
    · rintro i σ H' _ ⟨_, _, _, _, _, rfl⟩; exact sqL_new
    · rintro i x σ H' hx ⟨m, y, rfl, m0, m1, rfl⟩
      obtain ⟨c, hc, rfl⟩ := map_at hx
      have c0 : 0 ≤ c % 2147483549 := Int.emod_nonneg _ (by omega)
      have c1 : c % 2147483549 < 2147483549 := Int.emod_lt_of_pos _ (by omega)
      have e0 : 0 ≤ (m * 39373 + c % 2147483549 + 67) % 2147483563 := Int.emod_nonneg _ (by omega)
      have e1 : (m * 39373 + c % 2147483549 + 67) % 2147483563 < 2147483563 := Int.emod_lt_of_pos _ (by omega)
      refine ⟨_, rfl, _, _, rfl, rfl, wide_mul (a := 40) (b := 20) (by omega) (by omega) (by omega) (by omega) (by omega), _, rfl, .inl ⟨c, rfl, _, _, rfl, rfl, (by show (0 : Int) < 2147483549; omega), ?_⟩⟩
      exact ⟨_, _, rfl, rfl, _, _, rfl, rfl, .inl ⟨_, rfl, _, _, rfl, rfl, (by show (0 : Int) < 2147483563; omega), _, _, rfl, e0, e1, rfl⟩⟩
    · rintro σ H' ⟨m, y, rfl, m0, m1, rfl⟩
      intro d nd
      have s2 := same_new (o := .dK []) nd
      refine ⟨_, rfl, 63, rfl, a, _, rfl, (s1.trans s2).seq hS, fun p2 np2 => ?_⟩
      rw [ec]
      have s3 := same_new (o := .lst (ns.map V.int)) np2
      refine ⟨p2, _, rfl, .inl sqL_new, fun p3 np3 => ?_⟩
      have s4 := same_new (o := .lst (ns.map V.int)) np3
      refine ⟨p3, _, rfl, sqL_new, fun C nC => ?_⟩
      have s5 := same_new (o := .lst (ns.map V.int).reverse) nC
      refine ⟨_, rfl, ?_⟩
      have sA := (s2.trans s3).trans (s4.trans s5)
      have hd0 : (upd (upd (upd (upd (upd H p (.lst (ns.map V.int))) d (.dK [])) p2 (.lst (ns.map V.int))) p3 (.lst (ns.map V.int))) C (.lst (ns.map V.int).reverse)) d = some (.dK []) := ((s3.trans s4).trans s5) _ _ upd_same
      have hC0 : (upd (upd (upd (upd (upd H p (.lst (ns.map V.int))) d (.dK [])) p2 (.lst (ns.map V.int))) p3 (.lst (ns.map V.int))) C (.lst (ns.map V.int).reverse)) C = some (.lst (ns.map V.int).reverse) := upd_same
      generalize (upd (upd (upd (upd (upd H p (.lst (ns.map V.int))) d (.dK [])) p2 (.lst (ns.map V.int))) p3 (.lst (ns.map V.int))) C (.lst (ns.map V.int).reverse)) = H5 at *
      have ndC : d ≠ C := by rintro rfl; rw [hd0] at hC0; cases hC0
      refine ⟨hd0, deckK C m 0, rfl, by show 3 ≤ 15; omega, ?_⟩
      refine q d C _ ((s1.trans (same_write nd sA))) ⟨ns.reverse, m, 0, ?_, ?_, ?_, m0, m1, by omega, by omega⟩
      · rw [upd_same]; rfl
      · rw [upd_ne ndC.symm, hC0, List.map_reverse]
      · rw [List.length_reverse]; omega
end
end K07

namespace K07
open PySem PySem.Spec PyProof.Rows L2 Ly Am
section
theorem dv_cells (C : Addr) (m k : Int) : valV (deckK C m k) (Sum.inr "cells") = some (V.ref C) := by rfl
theorem dv_mixed (C : Addr) (m k : Int) : valV (deckK C m k) (Sum.inr "mixed") = some (V.int m) := by rfl
theorem dv_draws (C : Addr) (m k : Int) : valV (deckK C m k) (Sum.inr "draws") = some (V.int k) := by rfl
theorem dp_draws (C : Addr) (m k j : Int) : putK (deckK C m k) (Sum.inr "draws") (V.int j) = deckK C m j := by rfl
theorem dg_cells {H : Hp} {D C : Addr} {m k : Int} (h : H D = some (.dK (deckK C m k))) : DGet H D (.str "cells") (some (V.ref C)) := by
  have := DGet.k (k := Sum.inr "cells") h
  rw [dv_cells] at this; exact this
theorem dg_mixed {H : Hp} {D C : Addr} {m k : Int} (h : H D = some (.dK (deckK C m k))) : DGet H D (.str "mixed") (some (V.int m)) := by
  have := DGet.k (k := Sum.inr "mixed") h
  rw [dv_mixed] at this; exact this
theorem dg_draws {H : Hp} {D C : Addr} {m k : Int} (h : H D = some (.dK (deckK C m k))) : DGet H D (.str "draws") (some (V.int k)) := by
  have := DGet.k (k := Sum.inr "draws") h
  rw [dv_draws] at this; exact this
theorem lay_ints : ∀ cs : List Int, PyData.canLayAll0 (cs.map PyData.int) = true
  | [] => by simp [PyData.canLayAll0]
  | c :: r => by
    rw [List.map_cons, PyData.canLayAll0, lay_ints r]; simp [PyData.canLay0]
theorem sh_ints (cs : List Int) : SeqAt.shaped (.list (cs.map PyData.int)) = true := by
  unfold SeqAt.shaped
  rw [PyData.canLay0, lay_ints]
  have h1 := depth_ints cs
  have h2 : (PyData.list (cs.map PyData.int)).depth ≤ 64 := by
    rw [PyData.depth]; omega
  rw [decide_eq_true h2]; rfl
theorem dp_ints {K : PySem.W.Frag} {H : Hp} : ∀ cs : List Int, DpAll K H (cs.map V.int) (cs.map PyData.int)
  | [] => .nil
  | c :: r => .cons (.int c) (dp_ints r)
theorem eqv_nil (cs : List Int) : PyData.eqv (.list (cs.map PyData.int)) (.list []) = decide (cs = []) := by
  cases cs with
  | nil => simp [PyData.eqv, PyData.eqvAll]
  | cons x r => simp [PyData.eqv, PyData.eqvAll]
end
section
variable {P : Program} {w : World} {K : PySem.W.Frag} {mg : Str → Option Value} {base : Heap}
def spDraw : Sp := fun vs H Q _ => ∃ (D C : Addr) (n : Nat) (many : Int), vs = [.ref D, .int many] ∧ DeckAt H D C n ∧ n < 2 ^ 30 ∧ 0 < many ∧ many < 2 ^ 40 ∧
  ∀ r H', 0 ≤ r → r < many → Ot D C H H' → DeckAt H' D C (n + 1) → Q (.int r) H'
theorem ca_L_draw (T : Tx K mg) : Ca P w K mg base 1 "_law_draw" s_L_draw ["_law_deck_here", "_law_many"] spDraw := by
  refine Ca.of (fd_L_draw T) sc_L_draw ?_ ?_
  · rintro vs H Q E ⟨D, C, n, many, rfl, _⟩; rfl
  · rintro f cdv A out s H vs Q E hr ⟨D, C, n, many, rfl, da, hn, m0, m1, q⟩
    have dne := da.ne
    obtain ⟨cs, m, k, hD, hC, hl, a0, a1, k0, k1⟩ := da.ex
    refine ⟨_, (pss_cons (ps_dput (hu_of hr) (pv 0) pe_str (pe_op op_add (pe_dget (hu_of hr) (pv 0) pe_str (fun _ _ => rfl)) pe_int) rfl)
 (pss_cons (ps_set (i := 2) sc_L_draw.nd rfl (.inl rfl) (pe_op op_add (pe_dget (hu_of hr) (pv 0) pe_str (fun _ _ => rfl)) (pe_op op_mulW pe_int (pe_dget (hu_of hr) (pv 0) pe_str (fun _ _ => rfl)))))
 (pss_cons (ps_if (pt_cmpR (op_neD hr.units) (pe_dget (hu_of hr) (pv 0) pe_str (fun _ _ => rfl)) (pe_lst pa_nil) (nomark _))
 (pss_cons (ps_set (i := 3) sc_L_draw.nd rfl (.inl rfl) (pe_bm0 PySem.F.plainAttrs_list PySem.F.slot_list_pop PySem.F.type_list_pop mt_pop (pe_dget (hu_of hr) (pv 0) pe_str (fun _ _ => rfl))))
 (pss_cons (ps_if (pt_cmpR op_ge (pv 3) (pe_op op_pow pe_int pe_int) (nomark _))
 (pss_cons (ps_expr (pe_bm PySem.F.plainAttrs_list PySem.F.slot_list_append PySem.F.type_list_append mt_append (pe_dget (hu_of hr) (pv 0) pe_str (fun _ _ => rfl)) (pa_cons (pe_op op_fdivW (pv 3) (pe_callB (call_max2 rfl) (by rfl) T.f_max (by decide +kernel) (pa_cons pe_int (pa_cons (pv 1) pa_nil)))) pa_nil)))
 (pss_one (ps_ret (pe_op op_mod (pe_callTy call_int1 (by rfl) T.f_int (by decide +kernel) (pa_cons (pv 3) pa_nil)) (pv 1)))))
 pss_nil)
 (pss_one (ps_set (i := 2) sc_L_draw.nd rfl (.inl rfl) (pe_op op_add (pv 2) (pe_op op_mod (pe_callTy call_int1 (by rfl) T.f_int (by decide +kernel) (pa_cons (pv 3) pa_nil)) pe_int))))))
 pss_nil)
 (pss_cons (ps_set (i := 2) sc_L_draw.nd rfl (.inl rfl) (pe_op op_mod (pe_callTy call_int1 (by rfl) T.f_int (by decide +kernel) (pa_cons (pe_op op_add (pe_op op_mulW (pv 2) pe_int) pe_int) pa_nil)) pe_int))
 (pss_cons (ps_set (i := 2) sc_L_draw.nd rfl (.inl rfl) (pe_op op_mod (pe_callTy call_int1 (by rfl) T.f_int (by decide +kernel) (pa_cons (pe_op op_add (pe_op op_add (pe_op op_mulW (pv 2) (pv 2)) (pe_op op_mulW pe_int (pe_dget (hu_of hr) (pv 0) pe_str (fun _ _ => rfl)))) pe_int) pa_nil)) pe_int))
 (pss_cons (ps_set (i := 2) sc_L_draw.nd rfl (.inl rfl) (pe_op op_mod (pe_callTy call_int1 (by rfl) T.f_int (by decide +kernel) (pa_cons (pe_op op_mulW (pv 2) pe_int) pa_nil)) pe_int))
 (pss_one (ps_ret (pe_op op_mod (pe_callTy call_int1 (by rfl) T.f_int (by decide +kernel) (pa_cons (pe_op op_fdiv (pv 2) pe_int) pa_nil)) (pv 1)))))))))), ?_⟩
    have ml : many.natAbs.log2 < 9000 := by
      have : many.natAbs.log2 < 41 := (Nat.log2_lt (by omega)).mpr (by omega)
      omega
    refine ⟨_, rfl, D, V.int k, rfl, dg_draws hD, _, _, rfl, rfl, ?_⟩
    refine ⟨_, rfl, D, _, rfl, DPut.k (k := Sum.inr "draws") hD (by show 3 < sizeLine; rw [sizeLine_eq]; omega), ?_⟩
    rw [dp_draws]
    have hD1 : (upd H D (.dK (deckK C m (k + 1)))) D = some (.dK (deckK C m (k + 1))) := upd_same
    have hC1 : (upd H D (.dK (deckK C m (k + 1)))) C = some (.lst (cs.map V.int)) := by rw [upd_ne dne.symm]; exact hC
    have o1 : Ot D C H (upd H D (.dK (deckK C m (k + 1)))) := fun b o e h1 _ => by rw [upd_ne h1]; exact e
    generalize upd H D (.dK (deckK C m (k + 1))) = H1 at *
    refine ⟨_, rfl, D, _, rfl, dg_mixed hD1, _, rfl, D, _, rfl, dg_draws hD1, _, _, rfl, rfl, wide_mul (a := 40) (b := 60) (by omega) (by omega) (by omega) (by omega) (by omega), _, _, rfl, rfl, ?_⟩
    have n0 : 0 ≤ m + 68473 * (k + 1) := by omega
    have n1 : m + 68473 * (k + 1) < 2 ^ 61 := by omega
    dsimp only
    generalize m + 68473 * (k + 1) = num at *
    refine ⟨_, rfl, D, _, rfl, dg_cells hD1, ?_⟩
    refine ⟨by show 0 ≤ sizeLine; omega, fun pz nz => ?_⟩
    have sz := same_new (o := .lst []) nz
    refine ⟨.list (cs.map PyData.int), .list [], .lst (sz.seq (.inl (.inl hC1))) (dp_ints cs), .lst sqL_new .nil, sh_ints cs, rfl, _, rfl, ?_⟩
    rw [eqv_nil]
    have o2 : Ot D C H (upd H1 pz (.lst [])) := o1.trans (Ot.of sz)
    have hD2 := sz _ _ hD1
    have hC2 := sz _ _ hC1
    generalize (upd H1 pz (.lst [])) = H2 at *
    by_cases ce : cs = []
    · rw [decide_eq_true ce]
      refine iteF ?_
      obtain ⟨cs', hcs'⟩ : ∃ cs' : List Int, cs' = cs := ⟨_, rfl⟩
      rw [← hcs'] at hC2
      have ln : cs'.length ≤ 1000 := by rw [hcs']; exact hl
      refine ⟨_, rfl, _, _, rfl, rfl, wide_mul (a := 62) (b := 20) (by omega) (by omega) (by omega) (by omega) (by omega), _, _, rfl, rfl, .inl ⟨_, rfl, _, _, rfl, rfl, (by show (0 : Int) < 2147483647; omega), ?_⟩⟩
      have u0 : 0 ≤ (num * 40014 + 67) % 2147483647 := Int.emod_nonneg _ (by omega)
      have u1 : (num * 40014 + 67) % 2147483647 < 2147483647 := Int.emod_lt_of_pos _ (by omega)
      generalize (num * 40014 + 67) % 2147483647 = x1 at *
      refine ⟨_, rfl, _, rfl, _, _, rfl, rfl, wide_mul (a := 40) (b := 40) (by omega) (by omega) (by omega) (by omega) (by omega), _, rfl, D, _, rfl, dg_draws hD2, _, _, rfl, rfl, wide_mul (a := 40) (b := 60) (by omega) (by omega) (by omega) (by omega) (by omega), _, _, rfl, rfl, _, _, rfl, rfl, .inl ⟨_, rfl, _, _, rfl, rfl, (by show (0 : Int) < 2147483563; omega), ?_⟩⟩
      have u2 : 0 ≤ (x1 * x1 + 58109 * (k + 1) + 83) % 2147483563 := Int.emod_nonneg _ (by omega)
      have u3 : (x1 * x1 + 58109 * (k + 1) + 83) % 2147483563 < 2147483563 := Int.emod_lt_of_pos _ (by omega)
      generalize (x1 * x1 + 58109 * (k + 1) + 83) % 2147483563 = x2 at *
      refine ⟨_, rfl, _, _, rfl, rfl, wide_mul (a := 40) (b := 20) (by omega) (by omega) (by omega) (by omega) (by omega), .inl ⟨_, rfl, _, _, rfl, rfl, (by show (0 : Int) < 2147483549; omega), ?_⟩⟩
      refine ⟨_, rfl, _, _, rfl, rfl, ⟨by omega, by omega⟩, .inl ⟨_, rfl, _, rfl, _, _, rfl, rfl, m0, ?_⟩⟩
      exact q _ H2 (Int.emod_nonneg _ (by omega)) (Int.emod_lt_of_pos _ m0) o2 ⟨cs', m, k + 1, hD2, hC2, ln, a0, a1, by omega, by omega⟩
    · rw [decide_eq_false ce]
      refine iteT ?_
      obtain ⟨cs', c, hcs⟩ : ∃ (cs' : List Int) (c : Int), cs = cs' ++ [c] := ⟨cs.dropLast, cs.getLast ce, (List.dropLast_concat_getLast ce).symm⟩
      have l1 : cs'.length + 1 = cs.length := by rw [hcs, List.length_append]; rfl
      refine ⟨_, rfl, D, _, rfl, dg_cells hD2, ?_, C, _, V.int c, rfl, rfl, hC2, ?_, ?_⟩
      · exact .inl ⟨rfl, _, .inl (.inl hC2)⟩
      · rw [hcs, List.map_append, List.length_append, List.length_map]
        simp
      have ed : (cs.map V.int).dropLast = cs'.map V.int := by
        rw [hcs, List.map_append]; simp
      rw [ed]
      have hC3 : (upd H2 C (.lst (cs'.map V.int))) C = some (.lst (cs'.map V.int)) := upd_same
      have hD3 : (upd H2 C (.lst (cs'.map V.int))) D = some (.dK (deckK C m (k + 1))) := by rw [upd_ne dne]; exact hD2
      have o3 : Ot D C H (upd H2 C (.lst (cs'.map V.int))) := o2.trans fun b o e _ h => by rw [upd_ne h]; exact e
      generalize (upd H2 C (.lst (cs'.map V.int))) = H3 at *
      refine ⟨_, rfl, _, _, rfl, rfl, ⟨by omega, by omega, by decide⟩, _, _, rfl, rfl, _, rfl, ite2 (fun c1 => ?_) (fun c1 => ?_)⟩
      · refine ⟨_, rfl, D, _, rfl, dg_cells hD3, .inl ⟨rfl, _, .inl (.inl hC3)⟩, _, rfl, _, rfl, 2, many, rfl, ?_⟩
        have hm : 0 < (if many > 2 then many else 2) := by split <;> omega
        have hm2 : (if many > 2 then many else 2) < 2 ^ 40 := by split <;> omega
        generalize (if many > 2 then many else 2) = mm at *
        refine ⟨_, _, rfl, rfl, ⟨hm, ?_⟩, C, _, _, rfl, rfl, hC3, by rw [List.length_map, sizeLine_eq]; omega, ?_⟩
        · have : mm.natAbs.log2 < 41 := (Nat.log2_lt (by omega)).mpr (by omega)
          omega
        · refine ⟨_, rfl, .inl ⟨c, rfl, _, rfl, _, _, rfl, rfl, m0, ?_⟩⟩
          refine q _ _ (Int.emod_nonneg _ (by omega)) (Int.emod_lt_of_pos _ m0) (o3.trans fun b o e _ h => by rw [upd_ne h]; exact e) ⟨cs' ++ [c / mm], m, k + 1, ?_, ?_, ?_, a0, a1, by omega, by omega⟩
          · rw [upd_ne dne]; exact hD3
          · rw [upd_same, List.map_append]; rfl
          · rw [List.length_append]; show cs'.length + 1 ≤ _; omega
      · have c0 : 0 ≤ c % 2147483549 := Int.emod_nonneg _ (by omega)
        have c2 : c % 2147483549 < 2147483549 := Int.emod_lt_of_pos _ (by omega)
        refine ⟨_, rfl, _, rfl, .inl ⟨c, rfl, _, _, rfl, rfl, (by show (0 : Int) < 2147483549; omega), _, _, rfl, rfl, ?_⟩⟩
        have n2 : 0 ≤ num + c % 2147483549 := by omega
        have n3 : num + c % 2147483549 < 2 ^ 62 := by omega
        dsimp only
        generalize num + c % 2147483549 = num2 at *
        have ln : cs'.length ≤ 1000 := by omega
        refine ⟨_, rfl, _, _, rfl, rfl, wide_mul (a := 62) (b := 20) (by omega) (by omega) (by omega) (by omega) (by omega), _, _, rfl, rfl, .inl ⟨_, rfl, _, _, rfl, rfl, (by show (0 : Int) < 2147483647; omega), ?_⟩⟩
        have u0 : 0 ≤ (num2 * 40014 + 67) % 2147483647 := Int.emod_nonneg _ (by omega)
        have u1 : (num2 * 40014 + 67) % 2147483647 < 2147483647 := Int.emod_lt_of_pos _ (by omega)
        generalize (num2 * 40014 + 67) % 2147483647 = x1 at *
        refine ⟨_, rfl, _, rfl, _, _, rfl, rfl, wide_mul (a := 40) (b := 40) (by omega) (by omega) (by omega) (by omega) (by omega), _, rfl, D, _, rfl, dg_draws hD3, _, _, rfl, rfl, wide_mul (a := 40) (b := 60) (by omega) (by omega) (by omega) (by omega) (by omega), _, _, rfl, rfl, _, _, rfl, rfl, .inl ⟨_, rfl, _, _, rfl, rfl, (by show (0 : Int) < 2147483563; omega), ?_⟩⟩
        have u2 : 0 ≤ (x1 * x1 + 58109 * (k + 1) + 83) % 2147483563 := Int.emod_nonneg _ (by omega)
        have u3 : (x1 * x1 + 58109 * (k + 1) + 83) % 2147483563 < 2147483563 := Int.emod_lt_of_pos _ (by omega)
        generalize (x1 * x1 + 58109 * (k + 1) + 83) % 2147483563 = x2 at *
        refine ⟨_, rfl, _, _, rfl, rfl, wide_mul (a := 40) (b := 20) (by omega) (by omega) (by omega) (by omega) (by omega), .inl ⟨_, rfl, _, _, rfl, rfl, (by show (0 : Int) < 2147483549; omega), ?_⟩⟩
        refine ⟨_, rfl, _, _, rfl, rfl, ⟨by omega, by omega⟩, .inl ⟨_, rfl, _, rfl, _, _, rfl, rfl, m0, ?_⟩⟩
        exact q _ H3 (Int.emod_nonneg _ (by omega)) (Int.emod_lt_of_pos _ m0) o3 ⟨cs', m, k + 1, hD3, hC3, ln, a0, a1, by omega, by omega⟩
end
end K07

namespace K07
open PySem PySem.Spec PyProof.Rows L2 Ly Am
section
variable {P : Program} {w : World} {K : PySem.W.Frag} {mg : Str → Option Value} {base : Heap}
local macro_rules | `(tactic| walk_at "isint") => `(tactic| refine ⟨_, "int", true, false, rfl, tyx_int, by decide +kernel, by decide +kernel, ?_⟩)
def spGcd : Sp := fun vs H Q _ => ∃ (a b : Int), vs = [.int a, .int b] ∧ b.natAbs < 2 ^ 64 ∧ Q (.int ((Nat.gcd a.natAbs b.natAbs : Nat) : Int)) H
theorem ca_L_gcd (T : Tx K mg) : Ca P w K mg base 1 "_law_gcd" s_L_gcd ["_law_a", "_law_b"] spGcd := by
  refine Ca.of (fd_L_gcd T) sc_L_gcd ?_ ?_
  · rintro vs H Q E ⟨a, b, rfl, _⟩; rfl
  · rintro f cdv A out s H vs Q E hr ⟨a, b, rfl, hb, q⟩
    refine ⟨_, (pss_cons (ps_for PassesOwn.never rfl (pi_range1 (by rfl) T.f_range (pa_cons pe_int pa_nil)) (pg_name (i := 2) sc_L_gcd.nd rfl (.inl rfl))
 (pss_cons (ps_if (pt_cmpR op_eq (pv 1) pe_int (nomark _))
 (pss_one (ps_ret (pe_callB call_abs (by rfl) T.f_abs (by decide +kernel) (pa_cons (pv 0) pa_nil))))
 pss_nil)
 (pss_one (ps_par (i := 0) (j := 1) rfl sc_L_gcd.nd rfl rfl (by decide) rfl rfl (pa_cons (pv 1) (pa_cons (pe_op op_modN (pe_callTy call_int1 (by rfl) T.f_int (by decide +kernel) (pa_cons (pv 0) pa_nil)) (pv 1)) pa_nil)) rfl))))
 (pss_one (ps_ret (pe_callB call_abs (by rfl) T.f_abs (by decide +kernel) (pa_cons (pv 0) pa_nil))))), ?_⟩
    generalize eg : Nat.gcd a.natAbs b.natAbs = g at *
    refine ⟨200, rfl, by omega, by omega, ?_⟩
    refine for_range (fun i σ H' => ∃ a b y, σ = [some (.int a), some (.int b), y] ∧ GI g i a b ∧ H' = H) ⟨a, b, none, rfl, ⟨eg, .inl ⟨rfl, hb⟩⟩, rfl⟩ ?_ ?_
    · rintro i σ H' hi ⟨a, b, y, rfl, gi, rfl⟩
      have ab : ∀ x : Int, (if x < 0 then -x else x) = (x.natAbs : Int) := fun x => by split <;> omega
      refine ⟨_, rfl, rfl, _, rfl, ite2 (fun c => ?_) (fun c => ?_)⟩
      · have b0 : b = 0 := V.int.inj (of_decide_eq_true c)
        subst b0
        have z := q
        rw [← gi.end, ← ab] at z
        exact ⟨_, rfl, a, rfl, z⟩
      · have b0 : b ≠ 0 := fun z => c (decide_eq_true (congrArg V.int z))
        exact ⟨_, rfl, _, rfl, .inl ⟨a, rfl, _, rfl, _, _, rfl, rfl, b0, _, _, rfl, _, _, _, rfl, gi.step b0, rfl⟩⟩
    · rintro σ H' ⟨a, b, y, rfl, gi, rfl⟩
      have ab : ∀ x : Int, (if x < 0 then -x else x) = (x.natAbs : Int) := fun x => by split <;> omega
      have b0 := gi.out (by decide)
      subst b0
      have z := q
      rw [← gi.end, ← ab] at z
      exact ⟨_, rfl, a, rfl, z⟩
def spLPrime : Sp := fun vs H Q _ => ∃ n : Nat, vs = [.int n] ∧ n < 1000000 ∧ ∀ b H', Same H H' → (b = true ↔ Pr n) → Q (.bl b) H'
/-- whether 2 + j is told -/
def tq (n j : Nat) : Bool := decide ((2 + j) * (2 + j) ≤ n ∧ n % (2 + j) = 0)
theorem tq_nil {n m : Nat} (h2 : 2 ≤ n) (h : n < (m + 2) * (m + 2)) : (List.range m).filter (tq n) = [] ↔ Pr n := by
  rw [← pr_sq h2, List.filter_eq_nil_iff]
  constructor
  · intro z d d2 dd c
    have dm : d < m + 2 := by
      apply Nat.lt_of_not_le
      intro y
      have := Nat.mul_self_le_mul_self y
      omega
    have := z (d - 2) (List.mem_range.mpr (by omega))
    apply this
    unfold tq
    rw [show 2 + (d - 2) = d by omega]
    exact decide_eq_true ⟨dd, c⟩
  · intro z j hj c
    have := of_decide_eq_true c
    exact z (2 + j) (by omega) this.1 this.2
def tql (n i : Nat) : List V := (((List.range i).filter (tq n)).map fun j => ((2 + j : Nat) : Int)).map V.int
theorem tql_yes {n i : Nat} (h : tq n i = true) : tql n (i + 1) = tql n i ++ [V.int (2 + (i : Int))] := by
  unfold tql
  rw [List.range_succ, List.filter_append, List.map_append, List.map_append]
  congr 1
  simp [h]
theorem tql_no {n i : Nat} (h : tq n i = false) : tql n (i + 1) = tql n i := by
  unfold tql
  rw [List.range_succ, List.filter_append, List.map_append, List.map_append]
  simp [h]
theorem tql_len (n i : Nat) : (tql n i).length ≤ i := by
  unfold tql
  rw [List.length_map, List.length_map]
  have := List.length_filter_le (tq n) (List.range i)
  rwa [List.length_range] at this
theorem ca_L_is_prime (T : Tx K mg) : Ca P w K mg base 1 "_law_is_prime" s_L_is_prime ["_law_p"] spLPrime := by
  refine Ca.of (fd_L_is_prime T) sc_L_is_prime ?_ ?_
  · rintro vs H Q E ⟨n, rfl, _⟩; rfl
  · rintro f cdv A out s H vs Q E hr ⟨n, rfl, hn, q⟩
    refine ⟨_, (pss_cons (ps_if (pt_not (pt_chain op_lt op_lt pe_int (pv 0) pe_int))
 (pss_one (ps_ret pe_bl))
 pss_nil)
 (pss_one (ps_ret (pe_cmpR (op_eqD hr.units) (pe_lc (own := [("_law_q", 1)]) rfl sc_L_is_prime.nd (pi_range2 (by rfl) T.f_range (pa_cons pe_int (pa_cons (pe_ifExp (pt_cmpR op_lt (pv 0) pe_int (nomark _)) pe_int pe_int) pa_nil))) (blkOk_by (own := [("_law_q", 1)]) (N := n_L_is_prime) (sc := (defScope s_L_is_prime)) (by decide +kernel)) (fun _ _ _ _ _ => (pg_name (i := 1) sc_L_is_prime.nd rfl (Or.inl rfl) (Or.inr rfl))) (fun _ _ _ _ _ => (pts_one (PW.pt (pw_and (pt_cmpR op_le (pe_op op_mulW (pv 1) (pv 1)) (pv 0) (nomark _)) (pw_and1 (pt_cmpR op_eq (pe_op op_mod (pe_callTy call_int1 (by rfl) T.f_int (by decide +kernel) (pa_cons (pv 0) pa_nil)) (pv 1)) pe_int (nomark _))))))) (fun _ _ _ _ _ => (pv 1))) (pe_lst pa_nil) (nomark _))))), ?_⟩
    refine ⟨_, rfl, _, _, rfl, rfl, _, rfl, ite2 (fun c => ?_) (fun c => ?_)⟩
    · have c' : (1 : Int) < n := of_decide_eq_true c
      refine ⟨_, _, rfl, rfl, _, rfl, ?_⟩
      have e1 : decide ((n : Int) < 1000000) = true := decide_eq_true (by omega)
      rw [e1]
      refine iteF ?_
      have n2 : 2 ≤ n := by omega
      refine ⟨_, rfl, _, _, rfl, rfl, _, rfl, ite2 (fun c2 => ?_) (fun c2 => ?_)⟩
      · have c3 : (n : Int) < 1000 := of_decide_eq_true c2
        have e4 : n < 32 * 32 := by omega
        refine ⟨2, 32, rfl, by decide, fun D nD => ?_⟩
        refine lc_range (lo := 2) (n := 30) (fun i H' => Same H H' ∧ H' D = some (.lst (tql n i))) ⟨same_new nD, upd_same⟩ ?_ ?_
        · rintro i H' hi ⟨sm, hD⟩
          have ci : (2 + (i : Int)) = ((2 + i : Nat) : Int) := by omega
          refine ⟨rfl, ?_⟩
          refine ⟨_, rfl, _, rfl, _, _, rfl, rfl, wide_mul (a := 20) (b := 20) (by omega) (by omega) (by omega) (by omega) (by omega), _, rfl, _, _, rfl, rfl, _, rfl, ite2 (fun c5 => ?_) (fun c5 => ?_)⟩
          · have c6 : (2 + (i : Int)) * (2 + (i : Int)) ≤ (n : Int) := of_decide_eq_true c5
            refine ⟨_, rfl, .inl ⟨_, rfl, _, rfl, _, _, rfl, rfl, (by omega), rfl, _, rfl, ite2 (fun c7 => ?_) (fun c7 => ?_)⟩⟩
            · have c8 : (n : Int) % (2 + (i : Int)) = 0 := V.int.inj (of_decide_eq_true c7)
              have tqt : tq n i = true := by
                rw [ci] at c6 c8
                exact decide_eq_true ⟨by exact_mod_cast c6, by omega⟩
              refine ⟨_, rfl, _, hD, ?_, same_write nD sm, ?_⟩
              · have := tql_len n i
                rw [sizeLine_eq]; omega
              · rw [upd_same, tql_yes tqt]
            · have c8 : ¬ (n : Int) % (2 + (i : Int)) = 0 := fun z => c7 (decide_eq_true (congrArg V.int z))
              have tqf : tq n i = false := by
                rw [ci] at c8
                exact decide_eq_false fun z => c8 (by omega)
              refine ⟨sm, ?_⟩
              rw [tql_no tqf]; exact hD
          · have c6 : ¬ (2 + (i : Int)) * (2 + (i : Int)) ≤ (n : Int) := fun z => c5 (decide_eq_true z)
            have tqf : tq n i = false := by
              rw [ci] at c6
              exact decide_eq_false fun z => c6 (by exact_mod_cast z.1)
            refine ⟨sm, ?_⟩
            rw [tql_no tqf]; exact hD
        · rintro H' ⟨sm, hD⟩
          refine ⟨by show 0 ≤ sizeLine; omega, fun pz nz => ?_⟩
          have sz := same_new (o := .lst []) nz
          refine ⟨.list ((((List.range 30).filter (tq n)).map fun j => ((2 + j : Nat) : Int)).map PyData.int), .list [], .lst (.inl (.inl (sz _ _ hD))) (dp_ints _), .lst sqL_new .nil, sh_ints _, rfl, ?_⟩
          rw [eqv_nil]
          refine q _ _ (sm.trans sz) ?_
          rw [← tq_nil (m := 30) n2 e4, decide_eq_true_iff]
          simp
      · have e4 : n < 1000 * 1000 := by omega
        refine ⟨2, 1000, rfl, by decide, fun D nD => ?_⟩
        refine lc_range (lo := 2) (n := 998) (fun i H' => Same H H' ∧ H' D = some (.lst (tql n i))) ⟨same_new nD, upd_same⟩ ?_ ?_
        · rintro i H' hi ⟨sm, hD⟩
          have ci : (2 + (i : Int)) = ((2 + i : Nat) : Int) := by omega
          refine ⟨rfl, ?_⟩
          refine ⟨_, rfl, _, rfl, _, _, rfl, rfl, wide_mul (a := 20) (b := 20) (by omega) (by omega) (by omega) (by omega) (by omega), _, rfl, _, _, rfl, rfl, _, rfl, ite2 (fun c5 => ?_) (fun c5 => ?_)⟩
          · have c6 : (2 + (i : Int)) * (2 + (i : Int)) ≤ (n : Int) := of_decide_eq_true c5
            refine ⟨_, rfl, .inl ⟨_, rfl, _, rfl, _, _, rfl, rfl, (by omega), rfl, _, rfl, ite2 (fun c7 => ?_) (fun c7 => ?_)⟩⟩
            · have c8 : (n : Int) % (2 + (i : Int)) = 0 := V.int.inj (of_decide_eq_true c7)
              have tqt : tq n i = true := by
                rw [ci] at c6 c8
                exact decide_eq_true ⟨by exact_mod_cast c6, by omega⟩
              refine ⟨_, rfl, _, hD, ?_, same_write nD sm, ?_⟩
              · have := tql_len n i
                rw [sizeLine_eq]; omega
              · rw [upd_same, tql_yes tqt]
            · have c8 : ¬ (n : Int) % (2 + (i : Int)) = 0 := fun z => c7 (decide_eq_true (congrArg V.int z))
              have tqf : tq n i = false := by
                rw [ci] at c8
                exact decide_eq_false fun z => c8 (by omega)
              refine ⟨sm, ?_⟩
              rw [tql_no tqf]; exact hD
          · have c6 : ¬ (2 + (i : Int)) * (2 + (i : Int)) ≤ (n : Int) := fun z => c5 (decide_eq_true z)
            have tqf : tq n i = false := by
              rw [ci] at c6
              exact decide_eq_false fun z => c6 (by exact_mod_cast z.1)
            refine ⟨sm, ?_⟩
            rw [tql_no tqf]; exact hD
        · rintro H' ⟨sm, hD⟩
          refine ⟨by show 0 ≤ sizeLine; omega, fun pz nz => ?_⟩
          have sz := same_new (o := .lst []) nz
          refine ⟨.list ((((List.range 998).filter (tq n)).map fun j => ((2 + j : Nat) : Int)).map PyData.int), .list [], .lst (.inl (.inl (sz _ _ hD))) (dp_ints _), .lst sqL_new .nil, sh_ints _, rfl, ?_⟩
          rw [eqv_nil]
          refine q _ _ (sm.trans sz) ?_
          rw [← tq_nil (m := 998) n2 e4, decide_eq_true_iff]
          simp
    · refine ⟨_, rfl, iteT ?_⟩
      refine q false H (Same.refl H) ⟨(fun z => nomatch z), fun z => ?_⟩
      have := z.two
      exact absurd (decide_eq_true (by omega)) c
end
end K07

namespace K07
open PySem PySem.Spec PyProof.Rows L2 Ly Am
section
variable {P : Program} {w : World} {K : PySem.W.Frag} {mg : Str → Option Value} {base : Heap}
local macro_rules | `(tactic| walk_at "isint") => `(tactic| refine ⟨_, "int", true, false, rfl, tyx_int, by decide +kernel, by decide +kernel, ?_⟩)
def spOwn (K : PySem.W.Frag) : Sp := fun vs H Q _ => ∃ (v : V) (d : Int) (L : List (Int × Int)), vs = [v] ∧ AmtAt K H v d L ∧ AmOk d L ∧ ∀ H', Same H H' → Q (.bl true) H'
theorem ne_no {n m : Int} (h : n = m) : (!decide (V.int n = V.int m)) = false := by rw [h]; simp
theorem ca_L_is_own_amount (T : Tx K mg) : Ca P w K mg base 2 "_law_is_own_amount" s_L_is_own_amount ["_law_thing"] (spOwn K) := by
  have C_L_is_integer := ca_L_is_integer (P := P) (w := w) (base := base) T
  have C_L_is_prime := ca_L_is_prime (P := P) (w := w) (base := base) T
  have C_L_gcd := ca_L_gcd (P := P) (w := w) (base := base) T
  refine Ca.of (fd_L_is_own_amount T) sc_L_is_own_amount ?_ ?_
  · rintro vs H Q E ⟨v, d, L, rfl, _⟩; rfl
  · rintro f cdv A out s H vs Q E hr ⟨_, d, L, rfl, ⟨a, b, rs, rfl, h1, h2, h3⟩, ok, q⟩
    refine ⟨_, (pss_cons (ps_if (PW.pt (pw_or (pt_not (pt_val (pe_callB call_isi (by rfl) T.f_isinstance (by decide +kernel) (pa_cons (pv 0) (pa_cons (pe_bltn (v := .ty "tuple") (by rfl) T.f_tuple (by decide +kernel) rfl) pa_nil))))) (pw_or (pt_cmpR op_ne (pe_callB call_len_seq (by rfl) T.f_len (by decide +kernel) (pa_cons (pv 0) pa_nil)) pe_int (nomark _)) (pw_or (pt_not (pt_val (pe_ca C_L_is_integer hr (pa_cons (pe_ix ix_tup (pv 0) pe_int (fun _ _ => rfl)) pa_nil)))) (pw_or1 (pt_cmpR op_lt (pe_ix ix_tup (pv 0) pe_int (fun _ _ => rfl)) pe_int (nomark _)))))))
 (pss_one (ps_ret pe_bl))
 pss_nil)
 (pss_cons (ps_if (pt_not (pt_val (pe_callB call_isi (by rfl) T.f_isinstance (by decide +kernel) (pa_cons (pe_ix ix_tup (pv 0) pe_int (fun _ _ => rfl)) (pa_cons (pe_bltn (v := .ty "tuple") (by rfl) T.f_tuple (by decide +kernel) rfl) pa_nil)))))
 (pss_one (ps_ret pe_bl))
 pss_nil)
 (pss_cons (ps_par (i := 1) (j := 2) rfl sc_L_is_own_amount.nd rfl rfl (by decide) rfl rfl (pa_cons (pe_ix ix_tup (pv 0) pe_int (fun _ _ => rfl)) (pa_cons pe_int pa_nil)) rfl)
 (pss_cons (ps_for PassesOwn.never rfl (pi_tup (pe_ix ix_tup (pv 0) pe_int (fun _ _ => rfl))) (pg_name (i := 3) sc_L_is_own_amount.nd rfl (.inl rfl))
 (pss_cons (ps_if (PW.pt (pw_or (pt_not (pt_val (pe_callB call_isi (by rfl) T.f_isinstance (by decide +kernel) (pa_cons (pv 3) (pa_cons (pe_bltn (v := .ty "tuple") (by rfl) T.f_tuple (by decide +kernel) rfl) pa_nil))))) (pw_or (pt_cmpR op_ne (pe_callB call_len_seq (by rfl) T.f_len (by decide +kernel) (pa_cons (pv 3) pa_nil)) pe_int (nomark _)) (pw_or (pt_not (pt_val (pe_ca C_L_is_integer hr (pa_cons (pe_ix ix_tup (pv 3) pe_int (fun _ _ => rfl)) pa_nil)))) (pw_or1 (pt_not (pt_val (pe_ca C_L_is_integer hr (pa_cons (pe_ix ix_tup (pv 3) pe_int (fun _ _ => rfl)) pa_nil)))))))))
 (pss_one (ps_ret pe_bl))
 pss_nil)
 (pss_cons (ps_if (PW.pt (pw_or (pt_cmpR op_le (pe_ix ix_tup (pv 3) pe_int (fun _ _ => rfl)) (pv 2) (nomark _)) (pw_or (pt_cmpR op_eq (pe_ix ix_tup (pv 3) pe_int (fun _ _ => rfl)) pe_int (nomark _)) (pw_or1 (pt_not (pt_val (pe_ca C_L_is_prime hr (pa_cons (pe_ix ix_tup (pv 3) pe_int (fun _ _ => rfl)) pa_nil))))))))
 (pss_one (ps_ret pe_bl))
 pss_nil)
 (pss_one (ps_par (i := 1) (j := 2) rfl sc_L_is_own_amount.nd rfl rfl (by decide) rfl rfl (pa_cons (pe_ca C_L_gcd hr (pa_cons (pv 1) (pa_cons (pe_ix ix_tup (pv 3) pe_int (fun _ _ => rfl)) pa_nil))) (pa_cons (pe_ix ix_tup (pv 3) pe_int (fun _ _ => rfl)) pa_nil)) rfl)))))
 (pss_one (ps_ret (pe_cmpR op_eq (pv 1) pe_int (nomark _)))))))), ?_⟩
    have d1 := ok.cn.d1
    have rl : rs.length = L.length := Paired.length h3
    refine ⟨_, rfl, _, .ty "tuple", _, _, true, rfl, .ty "tuple", tyx_tup h1, kit_ty (by decide +kernel), true, rfl, iteF ?_⟩
    refine ⟨_, rfl, a, _, rfl, .inr h1, rfl, _, rfl, ?_⟩
    refine iteF ?_
    refine ⟨_, rfl, a, _, 0, _, rfl, rfl, h1, atI_nat (j := 0) rfl, ?_⟩
    walk_at "isint"
    refine ⟨true, rfl, iteF ?_⟩
    have e1 : decide (d < (1 : Int)) = false := decide_eq_false (by omega)
    refine ⟨_, rfl, a, _, 0, _, rfl, rfl, h1, atI_nat (j := 0) rfl, _, _, rfl, rfl, _, rfl, ?_⟩
    rw [e1]
    refine iteF ?_
    refine ⟨_, rfl, a, _, 1, _, rfl, rfl, h1, atI_nat (j := 1) rfl, _, .ty "tuple", _, _, true, rfl, .ty "tuple", tyx_tup h2, kit_ty (by decide +kernel), true, rfl, iteF ?_⟩
    refine ⟨_, rfl, a, _, 0, _, rfl, rfl, h1, atI_nat (j := 0) rfl, _, _, rfl, ?_⟩
    refine ⟨_, rfl, a, _, 1, _, rfl, rfl, h1, atI_nat (j := 1) rfl, b, rfl, ⟨_, h2⟩, ?_⟩
    refine for_tup (xs := rs.map V.ref) (fun i σ H' => ∃ la y3, σ = [some (.ref a), some (.int (gl d ((L.take i).map (·.2)))), some (.int la), y3] ∧ Same H H' ∧ ∀ u, L[i]? = some u → la < u.1) ⟨1, none, rfl, Same.refl H, ?_⟩ ?_ ?_ ?_
    · intro u hu
      obtain ⟨p, e, pr, _⟩ := ok.cn.pr u (List.mem_of_getElem? hu)
      have := pr.two; omega
    · rintro i σ H' _ ⟨_, _, _, sm, _⟩; exact SqT.same sm h2
    · rintro i x σ H' hx ⟨la, y3, rfl, sm, hla⟩
      obtain ⟨r, hr1, rfl⟩ := map_at hx
      obtain ⟨u, hu, hut0⟩ := Paired.at' h3 hr1
      have hut := SqT.same sm hut0
      have um := List.mem_of_getElem? hu
      obtain ⟨p, pe, pp, pl⟩ := ok.cn.pr u um
      have lt := hla u hu
      refine ⟨_, rfl, _, .ty "tuple", _, _, true, rfl, .ty "tuple", tyx_tup hut, kit_ty (by decide +kernel), true, rfl, iteF ?_⟩
      refine ⟨_, rfl, r, _, rfl, .inr hut, rfl, _, rfl, iteF ?_⟩
      refine ⟨_, rfl, r, _, 0, _, rfl, rfl, hut, atI_nat (j := 0) rfl, ?_⟩
      walk_at "isint"
      refine ⟨true, rfl, iteF ?_⟩
      refine ⟨_, rfl, r, _, 1, _, rfl, rfl, hut, atI_nat (j := 1) rfl, ?_⟩
      walk_at "isint"
      refine ⟨true, rfl, iteF ?_⟩
      have e2 : decide (u.1 ≤ la) = false := decide_eq_false (by omega)
      have e3 : decide (V.int u.2 = V.int 0) = false := decide_eq_false fun z => ok.cn.nz u um (V.int.inj z)
      refine ⟨_, rfl, r, _, 0, _, rfl, rfl, hut, atI_nat (j := 0) rfl, _, rfl, _, _, rfl, rfl, _, rfl, ?_⟩
      rw [e2]
      refine iteF ?_
      refine ⟨_, rfl, r, _, 1, _, rfl, rfl, hut, atI_nat (j := 1) rfl, rfl, _, rfl, ?_⟩
      rw [e3]
      refine iteF ?_
      refine ⟨_, rfl, r, _, 0, _, rfl, rfl, hut, atI_nat (j := 0) rfl, p, by show [V.int u.1] = _; rw [pe], pl, fun bb H3 s3 hb => ?_⟩
      have : bb = true := hb.mpr pp
      subst this
      refine ⟨true, rfl, iteF ?_⟩
      have hut3 := SqT.same s3 hut
      refine ⟨_, rfl, _, rfl, r, _, 1, _, rfl, rfl, hut3, atI_nat (j := 1) rfl, _, _, rfl, ok.par u um, ?_⟩
      refine ⟨_, rfl, r, _, 0, _, rfl, rfl, hut3, atI_nat (j := 0) rfl, _, _, rfl, u.1, some (.ref r), ?_, sm.trans s3, ?_⟩
      · rw [take_snoc _ hu, gl_snoc]; rfl
      · intro z hz
        obtain ⟨b1, c1⟩ := List.getElem?_eq_some_iff.mp hu
        obtain ⟨b2, c2⟩ := List.getElem?_eq_some_iff.mp hz
        have := List.pairwise_iff_getElem.mp ok.cn.asc i (i + 1) b1 b2 (by omega)
        rw [c1, c2] at this; exact this
    · rintro σ H' ⟨la, y3, rfl, sm, _⟩
      rw [List.length_map, rl, List.take_of_length_le (Nat.le_refl _), ok.cn.gcd]
      exact ⟨_, rfl, rfl, q H' sm⟩
end
end K07

namespace K07
open PySem PySem.Spec PyProof.Rows L2 Ly Am
section
variable {P : Program} {w : World} {K : PySem.W.Frag} {mg : Str → Option Value} {base : Heap}
/-- the law's own power -/
def spLPower : Sp := fun vs H Q _ => ∃ (b : Int) (e n : Nat), vs = [.int b, .int e] ∧ b.natAbs < 2 ^ n ∧ n * (2 * e) ≤ 900000 ∧ e < 2 ^ 39 ∧ Q (.int (b ^ e)) H
theorem ca_L_power (T : Tx K mg) : Ca P w K mg base 1 "_law_power" s_L_power ["_law_base", "_law_exponent"] spLPower := by
  refine Ca.of (fd_L_power T) sc_L_power ?_ ?_
  · rintro vs H Q E ⟨b, e, n, rfl, _⟩; rfl
  · rintro f cdv A out s H vs Q E hr ⟨b, e, n, rfl, hb, hn, he, q⟩
    refine ⟨_, (pss_cons (ps_par (i := 2) (j := 3) rfl sc_L_power.nd rfl rfl (by decide) rfl rfl (pa_cons pe_int (pa_cons (pv 1) pa_nil)) rfl)
 (pss_cons (ps_for PassesOwn.never rfl (pi_range1 (by rfl) T.f_range (pa_cons pe_int pa_nil)) (pg_name (i := 4) sc_L_power.nd rfl (.inl rfl))
 (pss_cons (ps_if (pt_cmpR op_eq (pv 3) pe_int (nomark _))
 (pss_one (ps_ret (pv 2)))
 pss_nil)
 (pss_cons (ps_if (pt_cmpR op_eq (pe_op op_mod (pe_callTy call_int1 (by rfl) T.f_int (by decide +kernel) (pa_cons (pv 3) pa_nil)) pe_int) pe_int (nomark _))
 (pss_one (ps_set (i := 2) sc_L_power.nd rfl (.inl rfl) (pe_op op_mulW (pv 2) (pv 0))))
 pss_nil)
 (pss_cons (ps_set (i := 3) sc_L_power.nd rfl (.inl rfl) (pe_op op_fdiv (pv 3) pe_int))
 (pss_one (ps_if (pt_cmpR op_gt (pv 3) pe_int (nomark _))
 (pss_one (ps_set (i := 0) sc_L_power.nd rfl (.inl rfl) (pe_op op_mulW (pv 0) (pv 0))))
 pss_nil))))))
 (pss_one (ps_ret (pv 2))))), ?_⟩
    refine ⟨_, rfl, _, _, rfl, ?_⟩
    refine ⟨40, rfl, by omega, by omega, ?_⟩
    have bits : ∀ j : Nat, (b ^ j).natAbs < 2 ^ (n * j + 1) := fun j => pow_bits hb j
    refine for_range (n := (40 : Int).toNat) (fun i σ H' => ∃ (j m l : Nat) (y : Option V), σ = [some (.int (b ^ m)), some (.int e), some (.int (b ^ j)), some (.int l), y] ∧ j + m * l = e ∧ l * 2 ^ i ≤ e ∧ H = H') ⟨0, 1, e, none, by rw [Int.pow_zero, Int.pow_succ, Int.pow_zero, Int.one_mul]; rfl, by omega, by omega, rfl⟩ ?_ ?_
    · rintro i σ H' hi ⟨j, m, l, y, rfl, e1, e2, rfl⟩
      refine ⟨_, rfl, rfl, _, rfl, ite2 (fun c => ?_) (fun c => ?_)⟩
      · have l0 : (l : Int) = 0 := V.int.inj (of_decide_eq_true c)
        have ej : j = e := by
          have : l = 0 := by omega
          rw [this, Nat.mul_zero] at e1; omega
        rw [ej]
        exact ⟨_, rfl, q⟩
      · have l0 : 0 < l := Nat.pos_of_ne_zero fun z => c (decide_eq_true (by rw [z]; rfl))
        have ml : m ≤ m * l := Nat.le_mul_of_pos_right _ l0
        have nb : n * (j + m) ≤ n * e := Nat.mul_le_mul_left _ (by omega)
        have nn : n * (2 * e) = 2 * (n * e) := Nat.mul_left_comm ..
        rw [Nat.mul_add] at nb
        have half : ((l : Int) / 2) = ((l / 2 : Nat) : Int) := by omega
        have lh : l / 2 * 2 ^ (i + 1) ≤ e := by
          rw [Nat.pow_succ, Nat.mul_comm (2 ^ i), ← Nat.mul_assoc]
          have : l / 2 * 2 ≤ l := Nat.div_mul_le_self l 2
          have := Nat.mul_le_mul_right (2 ^ i) this
          omega
        -- what is done with the rest
        have sq : ∀ (j' : Nat), j' + m * 2 * (l / 2) = e → 0 < l / 2 → CMulW (b ^ m) (b ^ m) := fun j' h0 h1 => by
          have m2 : m * 2 ≤ m * 2 * (l / 2) := Nat.le_mul_of_pos_right _ h1
          have : n * (m * 2) ≤ n * e := Nat.mul_le_mul_left _ (by omega)
          have e9 : n * (m * 2) = n * m + n * m := by rw [← Nat.mul_assoc]; omega
          exact wide_mul (bits m) (bits m) (by omega) (by omega) (by omega)
        refine ⟨_, rfl, .inl ⟨_, rfl, _, _, rfl, rfl, (by show (0 : Int) < 2; omega), rfl, _, rfl, ite2 (fun c2 => ?_) (fun c2 => ?_)⟩⟩
        · have odd : (l : Int) % 2 = 1 := V.int.inj (of_decide_eq_true c2)
          have ej : (j + m) + m * 2 * (l / 2) = e := by
            have : m * l = m * (2 * (l / 2) + 1) := by congr 1; omega
            rw [this, Nat.mul_add, Nat.mul_one, ← Nat.mul_assoc] at e1
            omega
          refine ⟨_, rfl, _, rfl, _, _, rfl, rfl, wide_mul (bits j) (bits m) (by omega) (by omega) (by omega), ?_⟩
          refine ⟨_, rfl, _, _, rfl, rfl, ⟨by omega, by omega⟩, ?_⟩
          refine ⟨_, rfl, _, _, rfl, rfl, _, rfl, ite2 (fun c3 => ?_) (fun c3 => ?_)⟩
          · have c4 : (0 : Int) < (l : Int) / 2 := of_decide_eq_true c3
            refine ⟨_, rfl, _, rfl, _, _, rfl, rfl, sq _ ej (by omega), j + m, m * 2, l / 2, some (.int (0 + (i : Int))), ?_, ej, lh, rfl⟩
            rw [← half, Int.pow_add, Int.pow_mul, Int.pow_succ (b ^ m) 1, Int.pow_succ (b ^ m) 0, Int.pow_zero, Int.one_mul]
            rfl
          · have c4 : ¬ (0 : Int) < (l : Int) / 2 := fun z => c3 (decide_eq_true z)
            have l2 : l / 2 = 0 := by omega
            refine ⟨j + m, m, l / 2, some (.int (0 + (i : Int))), ?_, by rw [l2, Nat.mul_zero] at ej ⊢; omega, lh, rfl⟩
            rw [← half, Int.pow_add]
            rfl
        · have ev : ¬ (l : Int) % 2 = 1 := fun z => c2 (decide_eq_true (congrArg V.int z))
          have ej : j + m * 2 * (l / 2) = e := by
            have : m * l = m * (2 * (l / 2)) := by congr 1; omega
            rw [this, ← Nat.mul_assoc] at e1
            exact e1
          refine ⟨_, rfl, _, _, rfl, rfl, ⟨by omega, by omega⟩, ?_⟩
          refine ⟨_, rfl, _, _, rfl, rfl, _, rfl, ite2 (fun c3 => ?_) (fun c3 => ?_)⟩
          · have c4 : (0 : Int) < (l : Int) / 2 := of_decide_eq_true c3
            refine ⟨_, rfl, _, rfl, _, _, rfl, rfl, sq _ ej (by omega), j, m * 2, l / 2, some (.int (0 + (i : Int))), ?_, ej, lh, rfl⟩
            rw [← half, Int.pow_mul, Int.pow_succ (b ^ m) 1, Int.pow_succ (b ^ m) 0, Int.pow_zero, Int.one_mul]
            rfl
          · have c4 : ¬ (0 : Int) < (l : Int) / 2 := fun z => c3 (decide_eq_true z)
            have l2 : l / 2 = 0 := by omega
            refine ⟨j, m, l / 2, some (.int (0 + (i : Int))), ?_, by rw [l2, Nat.mul_zero] at ej ⊢; omega, lh, rfl⟩
            rw [← half]
            rfl
    · rintro σ H' ⟨j, m, l, y, rfl, e1, e2, rfl⟩
      have l0 : l = 0 := by
        have e40 : (2 : Nat) ^ (40 : Int).toNat = 2 ^ 40 := rfl
        rw [e40] at e2
        omega
      have ej : j = e := by rw [l0, Nat.mul_zero] at e1; omega
      rw [ej]
      exact ⟨_, rfl, q⟩
end
end K07

namespace K07
open PySem PySem.Spec PyProof.Rows L2 Ly Am
section
variable {P : Program} {w : World} {K : PySem.W.Frag} {mg : Str → Option Value} {base : Heap}
def spSides (K : PySem.W.Frag) : Sp := fun vs H Q _ => ∃ (v : V) (d : Int) (L : List (Int × Int)) (n : Nat), vs = [v] ∧ AmtAt K H v d L ∧ Fits n 1 L ∧ ∀ t H', Same H H' → SqT K H' t [.int (up 1 L), .int (dn 1 L)] → Q (.ref t) H'
theorem ca_L_sides (T : Tx K mg) : Ca P w K mg base 2 "_law_sides" s_L_sides ["_law_amount"] (spSides K) := by
  have C_L_power := ca_L_power (P := P) (w := w) (base := base) T
  refine Ca.of (fd_L_sides T) sc_L_sides ?_ ?_
  · rintro vs H Q E ⟨v, d, L, n, rfl, _⟩; rfl
  · rintro f cdv A out s H vs Q E hr ⟨_, d, L, n, rfl, ⟨a, b, rs, rfl, h1, h2, h3⟩, ft, q⟩
    refine ⟨_, (pss_cons (ps_asg (pe_tup (pa_cons pe_int (pa_cons pe_int pa_nil))) (pg_tup rfl (pgs_cons (pg_name (i := 1) sc_L_sides.nd rfl (.inl rfl)) (pgs_cons (pg_name (i := 2) sc_L_sides.nd rfl (.inl rfl)) pgs_nil))))
 (pss_cons (ps_for PassesOwn.never rfl (pi_tup (pe_ix ix_tup (pv 0) pe_int (fun _ _ => rfl))) (pg_tup rfl (pgs_cons (pg_name (i := 3) sc_L_sides.nd rfl (.inl rfl)) (pgs_cons (pg_name (i := 4) sc_L_sides.nd rfl (.inl rfl)) pgs_nil)))
 (pss_one (ps_if (pt_cmpR op_gt (pv 4) pe_int (nomark _))
 (pss_one (ps_set (i := 1) sc_L_sides.nd rfl (.inl rfl) (pe_op op_mulW (pv 1) (pe_ca C_L_power hr (pa_cons (pv 3) (pa_cons (pv 4) pa_nil))))))
 (pss_one (ps_set (i := 2) sc_L_sides.nd rfl (.inl rfl) (pe_op op_mulW (pv 2) (pe_ca C_L_power hr (pa_cons (pv 3) (pa_cons (pe_un un_neg (pv 4)) pa_nil)))))))))
 (pss_one (ps_ret (pe_tup (pa_cons (pv 1) (pa_cons (pv 2) pa_nil))))))), ?_⟩
    have rl : rs.length = L.length := Paired.length h3
    refine ⟨by show 2 ≤ sizeLine; rw [sizeLine_eq]; omega, fun t0 nt0 => ?_⟩
    have u0 := same_new (o := .tup [V.int 1, V.int 1]) nt0
    refine ⟨t0, _, rfl, sqT_new, rfl, _, _, rfl, _, [], rfl, rfl, ?_⟩
    generalize upd H t0 (.tup [V.int 1, V.int 1]) = H0 at *
    refine ⟨_, rfl, a, _, 1, _, rfl, rfl, SqT.same u0 h1, atI_nat (j := 1) rfl, b, rfl, ⟨_, SqT.same u0 h2⟩, ?_⟩
    refine for_tup (xs := rs.map V.ref) (fun i σ H' => ∃ y3 y4, σ = [some (.ref a), some (.int (up 1 (L.take i))), some (.int (dn 1 (L.take i))), y3, y4] ∧ H0 = H') ⟨none, none, rfl, rfl⟩ ?_ ?_ ?_
    · rintro i σ H' _ ⟨_, _, _, rfl⟩; exact SqT.same u0 h2
    · rintro i x σ H' hx ⟨y3, y4, rfl, rfl⟩
      obtain ⟨r, hr1, rfl⟩ := map_at hx
      obtain ⟨u, hu, hut0⟩ := Paired.at' h3 hr1
      have hut := SqT.same u0 hut0
      have um := List.mem_of_getElem? hu
      obtain ⟨p0, pn⟩ := ft.pos u um
      have one := ft.one u um
      have ex := ft.ex u um
      have e2 : ((2 : Int) ^ n) = ((2 ^ n : Nat) : Int) := by simp
      have ba : ∀ q ∈ L.take i, q.1.natAbs < 2 ^ n := fun q hq => by
        obtain ⟨a1, a2⟩ := ft.pos q (List.mem_of_mem_take hq)
        omega
      have pb : u.1.natAbs < 2 ^ n := by omega
      have ub := up_bits (k := 1) ba
      have db := dn_bits (k := 1) ba
      have pw := pow_bits pb u.2.natAbs
      have len : (L.take i).length ≤ L.length := by rw [List.length_take]; omega
      have cs : n * (1 * cost (L.take i)) ≤ n * (1 * cost L) := Nat.mul_le_mul_left _ (Nat.mul_le_mul_left _ (cost_take L i))
      have cm : n * (1 * u.2.natAbs) ≤ n * (1 * cost L) := Nat.mul_le_mul_left _ (Nat.mul_le_mul_left _ (cost_mem um))
      rw [Nat.one_mul] at cm one
      have all := ft.all
      have tk : L.take (i + 1) = L.take i ++ [u] := by rw [List.take_add_one, hu]; rfl
      by_cases n0 : n = 0
      · exfalso
        rw [n0] at pb
        omega
      have e39 : u.2.natAbs < 2 ^ 39 := by
        have : 1 * (2 * u.2.natAbs) ≤ n * (2 * u.2.natAbs) := Nat.mul_le_mul_right _ (by omega)
        omega
      refine ⟨r, _, rfl, hut, rfl, _, _, rfl, _, [], rfl, rfl, ?_⟩
      refine ⟨_, rfl, _, _, rfl, rfl, _, rfl, ite2 (fun c => ?_) (fun c => ?_)⟩
      · have c' : 0 < u.2 := of_decide_eq_true c
        have e1 : u.2 = ((u.2.natAbs : Nat) : Int) := by omega
        refine ⟨_, rfl, _, rfl, _, rfl, u.1, u.2.natAbs, n, by show [V.int u.1, V.int u.2] = _; rw [← e1], pb, by omega, e39, ?_⟩
        refine ⟨_, _, rfl, rfl, wide_mul ub pw (by omega) (by omega) (by omega), some (.int u.1), some (.int u.2), ?_, rfl⟩
        rw [tk, up_snoc, dn_snoc, if_pos c', if_pos c', Int.mul_one, Nat.one_mul]
        rfl
      · have c' : ¬ 0 < u.2 := fun z => c (decide_eq_true z)
        have e1 : -u.2 = ((u.2.natAbs : Nat) : Int) := by omega
        refine ⟨_, rfl, _, rfl, _, rfl, _, rfl, u.1, u.2.natAbs, n, by show [V.int u.1, V.int (-u.2)] = _; rw [← e1], pb, by omega, e39, ?_⟩
        refine ⟨_, _, rfl, rfl, wide_mul db pw (by omega) (by omega) (by omega), some (.int u.1), some (.int u.2), ?_, rfl⟩
        rw [tk, up_snoc, dn_snoc, if_neg c', if_neg c', Int.mul_one, Nat.one_mul]
        rfl
    · rintro σ H' ⟨y3, y4, rfl, rfl⟩
      rw [List.length_map, rl, List.take_of_length_le (Nat.le_refl _)]
      refine ⟨_, rfl, _, rfl, by show 2 ≤ sizeLine; rw [sizeLine_eq]; omega, fun t nt => q t _ (u0.trans (same_new nt)) sqT_new⟩
end
end K07

namespace K07
open PySem PySem.Spec PyProof.Rows L2 Ly Am
theorem vi_mul {p : Nat} (hp : Pr p) {a b : Int} (ha : 0 < a) (hb : 0 < b) : vi p (a * b) = vi p a + vi p b := by
  obtain ⟨x, rfl⟩ := Int.eq_ofNat_of_zero_le (Int.le_of_lt ha)
  obtain ⟨y, rfl⟩ := Int.eq_ofNat_of_zero_le (Int.le_of_lt hb)
  unfold vi
  rw [← Int.natCast_mul, Int.toNat_natCast, Int.toNat_natCast, Int.toNat_natCast, Int.toNat_natCast, vp_mul hp _ _ (by omega) (by omega)]
  exact Int.natCast_add _ _
theorem vi_one {p : Nat} (hp : Pr p) : vi p 1 = 0 := by
  unfold vi; rw [Int.toNat_natCast]; show ((vp p 1 : Nat) : Int) = 0; rw [vp_one hp.two]; rfl
theorem vi_pow {p : Nat} (hp : Pr p) {a : Int} (ha : 0 < a) : ∀ k : Nat, vi p (a ^ k) = k * vi p a
  | 0 => by rw [Int.pow_zero, vi_one hp]; simp
  | k + 1 => by rw [Int.pow_succ, vi_mul hp (ipp k ha) ha, vi_pow hp ha k, Int.natCast_add, Int.add_mul]; simp
theorem vi_updn {p : Nat} (hp : Pr p) {L : List (Int × Int)} (h : ∀ q ∈ L, 0 < q.1) : vi p (up 1 L) = vi p (dn 1 L) + (L.map fun q => q.2 * vi p q.1).sum := by
  induction L with
  | nil => show vi p 1 = vi p 1 + 0; rw [Int.add_zero]
  | cons q r ih =>
    have hr : ∀ z ∈ r, 0 < z.1 := fun z hz => h z (List.mem_cons_of_mem _ hz)
    have q0 := h q List.mem_cons_self
    have i := ih hr
    obtain ⟨u0, d0⟩ := upk_pos (k := 1) hr
    rw [List.map_cons, List.sum_cons]
    show vi p ((if 0 < q.2 then q.1 ^ (1 * q.2.natAbs) else 1) * up 1 r) = vi p ((if 0 < q.2 then 1 else q.1 ^ (1 * q.2.natAbs)) * dn 1 r) + _
    by_cases c : 0 < q.2
    · rw [if_pos c, if_pos c, Int.one_mul, vi_mul hp (ipp _ q0) u0, vi_pow hp q0, i]
      have : ((1 * q.2.natAbs : Nat) : Int) = q.2 := by omega
      rw [this]; omega
    · rw [if_neg c, if_neg c, Int.one_mul, vi_mul hp (ipp _ q0) d0, vi_pow hp q0, i]
      have : ((1 * q.2.natAbs : Nat) : Int) = -q.2 := by omega
      rw [this, Int.neg_mul]; omega
theorem ig_sum {p : Nat} (hp : Pr p) : ∀ {L : List (Int × Int)}, (L.map (·.1)).Nodup → (∀ q ∈ L, ∃ n : Nat, q.1 = n ∧ Pr n ∧ n < 1000000) → (L.map fun q => q.2 * vi p q.1).sum = ig L p
  | [], _, _ => rfl
  | q :: r, nd, pr => by
    obtain ⟨n, e, pn, _⟩ := pr q List.mem_cons_self
    have nd2 := (List.nodup_cons.mp nd)
    have i := ig_sum hp (L := r) nd2.2 fun z hz => pr z (List.mem_cons_of_mem _ hz)
    rw [List.map_cons, List.sum_cons, i, ig_cons]
    have ev : vi p q.1 = if p = n then 1 else 0 := by
      unfold vi
      rw [e, Int.toNat_natCast, Int.toNat_natCast]
      by_cases c : p = n
      · rw [if_pos c, ← c, vp_self hp]; rfl
      · rw [if_neg c, vp_other hp pn c]; rfl
    rw [ev]
    by_cases c : p = n
    · have z : ig r p = 0 := ig_none fun x hx z => nd2.1 (List.mem_map.mpr ⟨x, hx, by show x.1 = q.1; rw [e, ← c]; exact z⟩)
      rw [if_pos c, if_pos (by rw [e, c]), z]; omega
    · rw [if_neg c, if_neg (by rw [e]; omega)]; omega
theorem eq_of_vi {a b : Int} (ha : 0 < a) (hb : 0 < b) (h : ∀ p : Nat, Pr p → vi p a = vi p b) : a = b := by
  have := eq_of_vp a.toNat b.toNat (by omega) (by omega) fun p hp => by
    have z := h p hp
    unfold vi at z
    rw [Int.toNat_natCast] at z
    exact_mod_cast z
  omega
/-- the two sides of what an amount stands for -/
theorem sides_eq {L : List (Int × Int)} {d many T B : Int} {f : Int → Int} (st : St4 d L many f) (hm : 0 < many) (hT : 0 < T) (hB : 0 < B) (h : ∀ p : Nat, Pr p → vi p T = vi p B + f p) :
    up 1 L ^ (many / d).toNat * B = T * dn 1 L ^ (many / d).toNat := by
  have hL : ∀ q ∈ L, 0 < q.1 := fun q hq => by
    obtain ⟨n, e, pn, _⟩ := st.1.pr q hq
    have := pn.pos; omega
  obtain ⟨u0, d0⟩ := upk_pos (k := 1) hL
  have d1 := st.1.d1
  obtain ⟨x, hx⟩ := st.dvd hm
  have ex : many / d = x := by rw [hx]; exact Int.mul_ediv_cancel_left _ (by omega)
  have x0 : 0 < x := by
    apply Int.pos_of_mul_pos_right (a := d) <;> omega
  refine eq_of_vi (Int.mul_pos (ipp _ u0) hB) (Int.mul_pos hT (ipp _ d0)) fun p hp => ?_
  rw [vi_mul hp (ipp _ u0) hB, vi_mul hp hT (ipp _ d0), vi_pow hp u0, vi_pow hp d0, h p hp, vi_updn hp hL, ig_sum hp (asc_nodup st.1.asc) st.1.pr, ex, show ((x.toNat : Nat) : Int) = x by omega]
  have e := st.2 p
  rw [hx] at e
  have e2 : x * ig L p = f p := by
    refine Int.eq_of_mul_eq_mul_right (a := d) (by omega) ?_
    rw [← e, Int.mul_comm d x, ← Int.mul_assoc, Int.mul_comm x]
  rw [Int.mul_add, e2]; omega
end K07

namespace K07
open PySem PySem.Spec PyProof.Rows L2 Ly Am
section
variable {P : Program} {w : World} {K : PySem.W.Frag} {mg : Str → Option Value} {base : Heap}
def spPick (K : PySem.W.Frag) : Sp := fun vs H Q _ => ∃ (D C a : Addr) (n : Nat) (xs : List V), vs = [.ref D, .ref a] ∧ DeckAt H D C n ∧ n < 2 ^ 29 ∧ SqT K H a xs ∧ 0 < xs.length ∧ xs.length ≤ 1000 ∧
  ∀ (i : Nat) (x : V) H', xs[i]? = some x → Ot D C H H' → DeckAt H' D C (n + 1) → Q x H'
theorem ca_L_pick (T : Tx K mg) : Ca P w K mg base 2 "_law_pick" s_L_pick ["_law_deck_here", "_law_some"] (spPick K) := by
  have C_L_draw := ca_L_draw (P := P) (w := w) (base := base) T
  refine Ca.of (fd_L_pick T) sc_L_pick ?_ ?_
  · rintro vs H Q E ⟨D, C, a, n, xs, rfl, _⟩; rfl
  · rintro f cdv A out s H vs Q E hr ⟨D, C, a, n, xs, rfl, da, hn, hT, l0, l1, q⟩
    refine ⟨_, (pss_one (ps_ret (pe_ix ix_tup (pv 1) (pe_ca C_L_draw hr (pa_cons (pv 0) (pa_cons (pe_callB call_len_seq (by rfl) T.f_len (by decide +kernel) (pa_cons (pv 1) pa_nil)) pa_nil))) (fun _ _ => rfl)))), ?_⟩
    refine ⟨_, rfl, _, rfl, _, rfl, a, xs, rfl, .inr hT, D, C, n, xs.length, rfl, da, by omega, by omega, by omega, fun r H' r0 r1 o da' => ?_⟩
    obtain ⟨i, rfl⟩ : ∃ i : Nat, r = i := ⟨r.toNat, by omega⟩
    have hi : i < xs.length := by omega
    have hx : xs[i]? = some xs[i] := List.getElem?_eq_getElem hi
    exact ⟨a, _, (i : Int), _, rfl, rfl, SqT.kp (o.kp da) hT, atI_nat hx, q i _ H' hx o da'⟩
def spWhole (K : PySem.W.Frag) : Sp := fun vs H Q _ => ∃ (a : Addr) (ns : List Int), vs = [.ref a] ∧ SqL K H a (ns.map V.int) ∧ (∀ n ∈ ns, 0 < n ∧ n ≤ 60) ∧ ns.length ≤ 40 ∧ ∀ H', Same H H' → Q (.int (ee ns)) H'
theorem ee_snoc (ns : List Int) (n : Int) : ee (ns ++ [n]) = ee ns * n ^ n.toNat := by
  rw [ee_append, ee_cons]; show _ * (_ * 1) = _; rw [Int.mul_one]
end
end K07

namespace K07
open PySem PySem.Spec PyProof.Rows L2 Ly Am
/-- what a drawn amount is told to stand for: the logarithm of T / B, divided by m -/
structure Kn (m T B : Int) (f : Int → Int) : Prop where
  m0 : 0 < m
  ml : m ≤ 200
  T0 : 0 < T
  B0 : 0 < B
  vi : ∀ p : Nat, Pr p → vi p T = vi p B + f p
  Tb : T.natAbs < 2 ^ 600
  Bb : B.natAbs < 2 ^ 600
theorem cut_tail (x : V) (xs : List V) : cutV (x :: xs) (some 1) none = xs := by
  unfold cutV
  have e1 : HT.sIx (x :: xs).length 0 (some 1) = 1 := by
    have := HT.sIx_nat (x :: xs).length 0 1
    rw [show ((1 : Nat) : Int) = 1 from rfl] at this
    rw [this, List.length_cons]; omega
  have e2 : HT.sIx (x :: xs).length (x :: xs).length none = (x :: xs).length := rfl
  rw [e1, e2, List.drop_one, List.tail_cons, List.take_of_length_le (by rw [List.length_cons]; omega)]
def ordI (l r : Int) : Int := (if r < l then 1 else 0) - (if l < r then 1 else 0)
section
variable {P : Program} {w : World} {K : PySem.W.Frag} {mg : Str → Option Value} {base : Heap}
def spOrder (K : PySem.W.Frag) : Sp := fun vs H Q _ => ∃ (a b : Addr) (v1 v2 : V) (m1 T1 B1 m2 T2 B2 : Int) (f1 f2 : Int → Int), vs = [.ref a, .ref b] ∧ SqT K H a [v1, .int m1, .int T1, .int B1] ∧ SqT K H b [v2, .int m2, .int T2, .int B2] ∧
  Kn m1 T1 B1 f1 ∧ Kn m2 T2 B2 f2 ∧ ∀ H', Same H H' → Q (.int (ordI (T1 ^ m2.toNat * B2 ^ m1.toNat) (T2 ^ m1.toNat * B1 ^ m2.toNat))) H'
end
end K07

namespace K07
open PySem PySem.Spec PyProof.Rows L2 Ly Am
theorem cost_lg {L M : List (Int × Int)} {d B : Int} (st : St4 d L B (lg M)) (hB : 0 < B) (hM : ∀ q ∈ M, 0 < q.2) : cost L ≤ wgt M := by
  have pr : ∀ p ∈ L.map (fun q => q.1.toNat), Pr p := fun p hp => by
    obtain ⟨q, hq, rfl⟩ := List.mem_map.mp hp
    obtain ⟨n, e, pn, _⟩ := st.1.pr q hq
    rw [e, Int.toNat_natCast]; exact pn
  have nd : (L.map fun q => q.1.toNat).Nodup := by
    rw [List.Nodup, List.pairwise_map]
    refine st.1.asc.imp_of_mem ?_
    intro a b ha hb hab z
    obtain ⟨n, e, _⟩ := st.1.pr a ha
    obtain ⟨m, e2, _⟩ := st.1.pr b hb
    rw [e, e2] at hab
    rw [e, e2, Int.toNat_natCast, Int.toNat_natCast] at z
    omega
  have h := sum_lg nd pr hM
  refine Nat.le_trans ?_ h
  rw [List.map_map]
  have ndL := asc_nodup st.1.asc
  have key : ∀ l : List (Int × Int), (∀ q ∈ l, q ∈ L) → cost l ≤ (l.map ((fun p : Nat => (lg M (p : Int)).natAbs) ∘ fun q => q.1.toNat)).sum := by
    intro l
    induction l with
    | nil => intro _; exact Nat.zero_le _
    | cons q r ih =>
      intro hl
      have i := ih fun z hz => hl z (List.mem_cons_of_mem _ hz)
      have hq := hl q List.mem_cons_self
      obtain ⟨n, e, _⟩ := st.1.pr q hq
      have h1 := st.abs hB q.1
      rw [ig_mem ndL hq] at h1
      have e3 : ((q.1.toNat : Nat) : Int) = q.1 := by omega
      unfold cost at *
      rw [List.map_cons, List.sum_cons, List.map_cons, List.sum_cons]
      show q.2.natAbs + _ ≤ (lg M ((q.1.toNat : Nat) : Int)).natAbs + _
      rw [e3]; omega
  exact key L fun _ h => h
theorem len_cost : ∀ {L : List (Int × Int)}, (∀ q ∈ L, q.2 ≠ 0) → L.length ≤ cost L
  | [], _ => Nat.zero_le _
  | q :: r, h => by
    have i := len_cost (L := r) fun z hz => h z (List.mem_cons_of_mem _ hz)
    have q0 := h q List.mem_cons_self
    unfold cost at *
    rw [List.length_cons, List.map_cons, List.sum_cons]; omega
/-- the products can be worked out as far as the sum of the logarithms' bits goes -/
theorem fitsW {L M : List (Int × Int)} {d B : Int} {n : Nat} (st : St4 d L B (lg M)) (hB : 0 < B) (hn : 0 < n) (hM : ∀ q ∈ M, 0 < q.2 ∧ q.2 < 2 ^ n) (hw : n * (2 * wgt M) ≤ 400000) : Fits n 1 L := by
  have hc := cost_lg st hB fun q hq => (hM q hq).1
  have hl := len_cost st.1.nz
  have e1 : n * (2 * wgt M) = 2 * (n * wgt M) := Nat.mul_left_comm ..
  have e2 : wgt M ≤ n * wgt M := Nat.le_mul_of_pos_left _ hn
  refine ⟨fun q hq => ?_, fun q hq => ?_, ?_, by decide, fun q hq => ?_⟩
  · have k := lg_key (m := 2 ^ n - 1) (st.zero hB hq) fun z hz => ⟨(hM z hz).1, by have := (hM z hz).2; omega⟩
    exact ⟨by omega, by omega⟩
  · have := cost_mem hq
    have h2 : n * (2 * (1 * q.2.natAbs)) ≤ n * (2 * wgt M) := Nat.mul_le_mul_left _ (by omega)
    omega
  · have h2 : n * (1 * cost L) ≤ n * wgt M := Nat.mul_le_mul_left _ (by omega)
    omega
  · have := cost_mem hq
    omega
end K07

namespace K07
open PySem PySem.Spec PyProof.Rows L2 Ly Am
def scl (c : Int) (M : List (Int × Int)) : List (Int × Int) := M.map fun q => (c * q.1, q.2)
theorem lg_scl (c : Int) (M : List (Int × Int)) (p : Int) : lg (scl c M) p = c * lg M p := by
  by_cases h : ∃ n : Nat, p = n ∧ Pr n
  · obtain ⟨n, rfl, pr⟩ := h
    rw [lg_pr _ pr, lg_pr _ pr]
    unfold scl
    rw [List.map_map]
    induction M with
    | nil => simp
    | cons x r ih =>
      rw [List.map_cons, List.sum_cons, ih, List.map_cons, List.sum_cons, Int.mul_add]
      show c * x.1 * vi n x.2 + _ = _
      rw [Int.mul_assoc]
  · rw [lg_no _ h, lg_no _ h, Int.mul_zero]
theorem wgt_scl (c : Int) (M : List (Int × Int)) : wgt (scl c M) = c.natAbs * wgt M := by
  unfold wgt scl
  rw [List.map_map]
  induction M with
  | nil => simp
  | cons x r ih =>
    rw [List.map_cons, List.sum_cons, ih, List.map_cons, List.sum_cons, Nat.mul_add]
    show (c * x.1).natAbs * x.2.toNat.log2 + _ = _
    rw [Int.natAbs_mul, Nat.mul_assoc]
theorem wgt_app (A B : List (Int × Int)) : wgt (A ++ B) = wgt A + wgt B := by unfold wgt; rw [List.map_append, List.sum_append]
theorem cost_near {L M : List (Int × Int)} {d B : Int} (st : St4 d L B (lg M)) (hB : 0 < B) (hM : ∀ q ∈ M, 0 < q.2) : cost L * (B / d).toNat ≤ wgt M := by
  -- the exponents times B / d are those of the sum
  have d1 := st.1.d1
  obtain ⟨x, hx⟩ := st.dvd hB
  have ex : B / d = x := by rw [hx]; exact Int.mul_ediv_cancel_left _ (by omega)
  have x0 : 0 < x := by
    apply Int.pos_of_mul_pos_right (a := d) <;> omega
  have pr : ∀ p ∈ L.map (fun q => q.1.toNat), Pr p := fun p hp => by
    obtain ⟨q, hq, rfl⟩ := List.mem_map.mp hp
    obtain ⟨n, e, pn, _⟩ := st.1.pr q hq
    rw [e, Int.toNat_natCast]; exact pn
  have nd : (L.map fun q => q.1.toNat).Nodup := by
    rw [List.Nodup, List.pairwise_map]
    refine st.1.asc.imp_of_mem ?_
    intro a b ha hb hab z
    obtain ⟨n, e, _⟩ := st.1.pr a ha
    obtain ⟨m, e2, _⟩ := st.1.pr b hb
    rw [e, e2] at hab
    rw [e, e2, Int.toNat_natCast, Int.toNat_natCast] at z
    omega
  refine Nat.le_trans ?_ (sum_lg nd pr hM)
  rw [List.map_map, ex]
  have ndL := asc_nodup st.1.asc
  have key : ∀ l : List (Int × Int), (∀ q ∈ l, q ∈ L) → cost l * x.toNat ≤ (l.map ((fun p : Nat => (lg M (p : Int)).natAbs) ∘ fun q => q.1.toNat)).sum := by
    intro l
    induction l with
    | nil => intro _; show 0 * _ ≤ _; omega
    | cons q r ih =>
      intro hl
      have i := ih fun z hz => hl z (List.mem_cons_of_mem _ hz)
      have hq := hl q List.mem_cons_self
      obtain ⟨n, e, _⟩ := st.1.pr q hq
      have h1 := st.2 q.1
      rw [ig_mem ndL hq, hx] at h1
      have h2 : q.2 * x = lg M q.1 := by
        refine Int.eq_of_mul_eq_mul_right (a := d) (by omega) ?_
        rw [← h1, Int.mul_comm d x, Int.mul_assoc]
      have e3 : ((q.1.toNat : Nat) : Int) = q.1 := by omega
      have h3 : (lg M q.1).natAbs = q.2.natAbs * x.toNat := by
        rw [← h2, Int.natAbs_mul]; congr 1; omega
      unfold cost at *
      rw [List.map_cons, List.sum_cons, List.map_cons, List.sum_cons, Nat.add_mul]
      show _ ≤ (lg M ((q.1.toNat : Nat) : Int)).natAbs + _
      rw [e3, h3]; omega
  exact key L fun _ h => h
/-- what GL8 asks of the sizes -/
theorem fitS {L M : List (Int × Int)} {d B : Int} {n : Nat} (st : St4 d L B (lg M)) (hB : 0 < B) (hBl : B ≤ 40000) (hn : 0 < n) (hM : ∀ q ∈ M, 0 < q.2 ∧ q.2 < 2 ^ n) (hw : n * (2 * wgt M) ≤ 100000) :
    Fits n 1 L ∧ (up 1 L).natAbs < 2 ^ (n * (1 * cost L) + L.length + 1) ∧ (dn 1 L).natAbs < 2 ^ (n * (1 * cost L) + L.length + 1) ∧ (n * (1 * cost L) + L.length + 1) * (2 * (B / d).toNat) ≤ 400000 := by
  have ft := fitsW st hB hn hM (by omega)
  have ba : ∀ q ∈ L, q.1.natAbs < 2 ^ n := fun q hq => by
    obtain ⟨a1, a2⟩ := ft.pos q hq
    have e2 : ((2 : Int) ^ n) = ((2 ^ n : Nat) : Int) := by simp
    omega
  refine ⟨ft, up_bits ba, dn_bits ba, ?_⟩
  have hc := cost_near st hB fun q hq => (hM q hq).1
  have hl := len_cost st.1.nz
  have d1 := st.1.d1
  have nr1 : B / d ≤ B := Int.ediv_le_self _ (by omega)
  have nr0 : 0 ≤ B / d := Int.ediv_nonneg (by omega) (by omega)
  have y1 : (B / d).toNat ≤ 40000 := by omega
  generalize (B / d).toNat = y at *
  have e1 : n * (2 * wgt M) = 2 * (n * wgt M) := Nat.mul_left_comm ..
  have e2 : wgt M ≤ n * wgt M := Nat.le_mul_of_pos_left _ hn
  have e3 : n * (1 * cost L) * y ≤ n * wgt M := by
    rw [Nat.one_mul, Nat.mul_assoc]; exact Nat.mul_le_mul_left _ hc
  have e4 : L.length * y ≤ wgt M := Nat.le_trans (Nat.mul_le_mul_right _ hl) hc
  have e5 : (n * (1 * cost L) + L.length + 1) * (2 * y) = 2 * (n * (1 * cost L) * y + L.length * y + y) := by
    rw [Nat.mul_left_comm, Nat.add_mul, Nat.add_mul, Nat.one_mul y]
  rw [e5]
  omega
end K07

namespace K07
open PySem PySem.Spec PyProof.Rows L2 Ly Am
theorem lg_wgt {M : List (Int × Int)} (hM : ∀ q ∈ M, 0 < q.2) (p : Int) : (lg M p).natAbs ≤ wgt M := by
  by_cases h : ∃ n : Nat, p = n ∧ Pr n
  · obtain ⟨n, rfl, pr⟩ := h
    have := sum_lg (ps := [n]) (by simp) (by intro q hq; rw [List.mem_singleton.mp hq]; exact pr) hM
    simpa using this
  · rw [lg_no _ h]; exact Nat.zero_le _
theorem bdW {M : List (Int × Int)} {B : Int} (hB : 0 < B) (hB2 : B ≤ 40000) (hM : ∀ q ∈ M, 0 < q.2 ∧ q.2 ≤ 1000) (hw : wgt M ≤ 1000000) : Bd B (lg M) :=
  ⟨hB, by omega, fun p h => (lg_key (m := 1000) h hM).2, fun p => by
    have := lg_wgt (fun q hq => (hM q hq).1) p
    omega⟩
section
variable {P : Program} {w : World} {K : PySem.W.Frag} {mg : Str → Option Value} {base : Heap}
def spIsSum (K : PySem.W.Frag) : Sp := fun vs H Q _ => ∃ (a b : Addr) (v1 v2 v3 : V) (m1 T1 B1 m2 T2 B2 : Int) (M1 M2 : List (Int × Int)) (s : Int), vs = [.ref a, .ref b, v3, .int s] ∧
  SqT K H a [v1, .int m1, .int T1, .int B1] ∧ SqT K H b [v2, .int m2, .int T2, .int B2] ∧ Kn m1 T1 B1 (lg M1) ∧ Kn m2 T2 B2 (lg M2) ∧ (s = 1 ∨ s = -1) ∧
  (∀ q ∈ M1 ++ M2, 0 < q.2 ∧ q.2 ≤ 1000) ∧ 10 * (2 * (m2.natAbs * wgt M1 + m1.natAbs * wgt M2)) ≤ 100000 ∧ Val K H v3 (m1 * m2) (lg (scl m2 M1 ++ scl (s * m1) M2)) ∧ ∀ H', Same H H' → Q (.bl true) H'
end
end K07

namespace K07
open PySem PySem.Spec PyProof.Rows L2 Ly Am
theorem merge_kd : ∀ (L M : List (Int × Int)), ((M ++ L).map (·.1)).Nodup → mergeK (kd M) (kd L) = kd (M ++ L)
  | [], M, _ => by rw [List.append_nil]; rfl
  | q :: r, M, h => by
    have e : mergeK (kd M) (kd (q :: r)) = mergeK (putK (kd M) (Sum.inl q.1) (V.int q.2)) (kd r) := rfl
    have n : M.lookup q.1 = none := by
      apply (lookup_none_iff _ _).mpr
      intro x hx z
      rw [List.map_append, List.nodup_append] at h
      exact h.2.2 _ (List.mem_map.mpr ⟨x, hx, rfl⟩) _ (by rw [List.map_cons]; exact List.mem_cons_self) z
    rw [e, kd_put, ip_new n, merge_kd r (M ++ [(q.1, q.2)]) (by simpa using h)]
    simp
theorem paired_kd {K : PySem.W.Frag} {H : Hp} : ∀ {rs : List Addr} {L : List (Int × Int)}, PairsAt K H rs L → Paired (fun p kv => SqT K H p [kV kv.1, kv.2]) rs (kd L)
  | [], [], .nil => .nil
  | _, _, .cons h t => .cons h (paired_kd t)
theorem keys_kd (L : List (Int × Int)) : (kd L).map (fun kv => kV kv.1) = (L.map (·.1)).map V.int := by
  unfold kd; rw [List.map_map, List.map_map]; rfl
theorem dict_of {L : List (Int × Int)} (h : (L.map (·.1)).Nodup) : mergeK [] (kd L) = kd L := merge_kd L [] (by simpa using h)
section
variable {P : Program} {w : World} {K : PySem.W.Frag} {mg : Str → Option Value} {base : Heap}
def spNear (K : PySem.W.Frag) : Sp := fun vs H Q _ => ∃ (v1 v2 : V) (d1 d2 : Int) (L1 L2 : List (Int × Int)), vs = [v1, v2] ∧ AmtAt K H v1 d1 L1 ∧ AmtAt K H v2 d2 L2 ∧ AmOk d1 L1 ∧ AmOk d2 L2 ∧ L1.length + L2.length < 64 ∧
  ∀ b H', Same H H' → Q (.bl b) H'
theorem ca_L_is_near_enough (T : Tx K mg) : Ca P w K mg base 2 "_law_is_near_enough" s_L_is_near_enough ["_law_one", "_law_other"] (spNear K) := by
  have C_L_gcd := ca_L_gcd (P := P) (w := w) (base := base) T
  refine Ca.of (fd_L_is_near_enough T) sc_L_is_near_enough ?_ ?_
  · rintro vs H Q E ⟨v1, v2, d1, d2, L1, L2, rfl, _⟩; rfl
  · rintro f cdv A out s H vs Q E hr ⟨v1, v2, d1, d2, L1, L2, rfl, ⟨a, a2, ra, rfl, ha, ha2, hra⟩, ⟨b, b2, rb, rfl, hb, hb2, hrb⟩, ok1, ok2, len, q⟩
    refine ⟨_, (pss_cons (ps_set (i := 2) sc_L_is_near_enough.nd rfl (.inl rfl) (pe_op op_fdivW (pe_op op_mulW (pe_ix ix_tup (pv 0) pe_int (fun _ _ => rfl)) (pe_ix ix_tup (pv 1) pe_int (fun _ _ => rfl))) (pe_ca C_L_gcd hr (pa_cons (pe_ix ix_tup (pv 0) pe_int (fun _ _ => rfl)) (pa_cons (pe_ix ix_tup (pv 1) pe_int (fun _ _ => rfl)) pa_nil)))))
 (pss_cons (ps_if (pt_cmpR op_gt (pv 2) pe_int (nomark _))
 (pss_one (ps_ret pe_bl))
 pss_nil)
 (pss_cons (ps_par (i := 3) (j := 4) rfl sc_L_is_near_enough.nd rfl rfl (by decide) rfl rfl (pa_cons (pe_callTy (call_dictP rfl) (by rfl) T.f_dict (by decide +kernel) (pa_cons (pe_callTy call_list_of (by rfl) T.f_list (by decide +kernel) (pa_cons (pe_ix ix_tup (pv 0) pe_int (fun _ _ => rfl)) pa_nil)) pa_nil)) (pa_cons (pe_callTy (call_dictP rfl) (by rfl) T.f_dict (by decide +kernel) (pa_cons (pe_callTy call_list_of (by rfl) T.f_list (by decide +kernel) (pa_cons (pe_ix ix_tup (pv 1) pe_int (fun _ _ => rfl)) pa_nil)) pa_nil)) pa_nil)) rfl)
 (pss_cons (ps_set (i := 5) sc_L_is_near_enough.nd rfl (.inl rfl) pe_int)
 (pss_cons (ps_for PassesOwn.never rfl (pi_list (pe_callB (cr_sortedSet rfl) (by rfl) T.f_sorted (by decide +kernel) (pa_cons (pe_callTy (cr_setL rfl) (by rfl) T.f_set (by decide +kernel) (pa_cons (pe_op op_cat (pe_callTy (call_listD rfl) (by rfl) T.f_list (by decide +kernel) (pa_cons (pv 3) pa_nil)) (pe_callTy (call_listD rfl) (by rfl) T.f_list (by decide +kernel) (pa_cons (pv 4) pa_nil))) pa_nil)) pa_nil))) (pg_name (i := 6) sc_L_is_near_enough.nd rfl (.inl rfl))
 (pss_one (ps_set (i := 5) sc_L_is_near_enough.nd rfl (.inl rfl) (pe_op op_add (pv 5) (pe_op op_mulW (pe_callB call_abs (by rfl) T.f_abs (by decide +kernel) (pa_cons (pe_op op_sub (pe_op op_mulW (pe_dget2 (hu_of hr) (pv 3) (pv 6) pe_int ⟨rfl, rfl, rfl, rfl⟩) (pe_op op_fdivW (pv 2) (pe_ix ix_tup (pv 0) pe_int (fun _ _ => rfl)))) (pe_op op_mulW (pe_dget2 (hu_of hr) (pv 4) (pv 6) pe_int ⟨rfl, rfl, rfl, rfl⟩) (pe_op op_fdivW (pv 2) (pe_ix ix_tup (pv 1) pe_int (fun _ _ => rfl))))) pa_nil)) (pe_bits (pv 6)))))))
 (pss_one (ps_ret (pe_cmpR op_le (pv 5) pe_int (nomark _))))))))), ?_⟩
    have p1 := ok1.cn.d1
    have p2 := ok2.cn.d1
    have l1 := ok1.dl
    have l2 := ok2.dl
    have g0 : 0 < Nat.gcd d1.natAbs d2.natAbs := Nat.gcd_pos_of_pos_left _ (by omega)
    have g1 : Nat.gcd d1.natAbs d2.natAbs ≤ d1.natAbs := Nat.gcd_le_left _ (by omega)
    refine ⟨_, rfl, a, _, 0, _, rfl, rfl, ha, atI_nat (j := 0) rfl, _, rfl, b, _, 0, _, rfl, rfl, hb, atI_nat (j := 0) rfl, _, _, rfl, rfl, wide_mul (a := 64) (b := 64) (by omega) (by omega) (by omega) (by omega) (by omega), ?_⟩
    refine ⟨_, rfl, a, _, 0, _, rfl, rfl, ha, atI_nat (j := 0) rfl, _, rfl, b, _, 0, _, rfl, rfl, hb, atI_nat (j := 0) rfl, _, _, rfl, by omega, ?_⟩
    have glog : ((Nat.gcd d1.natAbs d2.natAbs : Nat) : Int).natAbs.log2 < 9000 := by
      rw [Int.natAbs_natCast]
      have : (Nat.gcd d1.natAbs d2.natAbs).log2 < 65 := (Nat.log2_lt (by omega)).mpr (by omega)
      omega
    refine ⟨_, _, rfl, rfl, ⟨by omega, glog⟩, ?_⟩
    obtain ⟨bt, ebt⟩ : ∃ bt, d1 * d2 / ((Nat.gcd d1.natAbs d2.natAbs : Nat) : Int) = bt := ⟨_, rfl⟩
    have bt0 : 0 ≤ bt := by rw [← ebt]; exact Int.ediv_nonneg (Int.le_of_lt (Int.mul_pos p1 p2)) (by omega)
    dsimp only
    rw [ebt]
    refine ⟨_, rfl, _, _, rfl, rfl, _, rfl, ite2 (fun _ => q false H (Same.refl H)) (fun c => ?_)⟩
    have bt9 : bt ≤ 1000 := by
      have : ¬ (1000 : Int) < bt := fun z => c (decide_eq_true z)
      omega
    refine ⟨_, rfl, a, _, 1, _, rfl, rfl, ha, atI_nat (j := 1) rfl, a2, _, rfl, .inr ha2, fun x1 nx1 => ?_⟩
    have s1 := same_new (o := .lst (ra.map V.ref)) nx1
    refine ⟨x1, ra, kd L1, rfl, sqL_new, paired_kd (hra.kp (Ly.Same.kp s1)), fun D1 nD1 => ?_⟩
    rw [dict_of (asc_nodup ok1.cn.asc)]
    have s2 := same_new (o := .dK (kd L1)) nD1
    have hD1 : upd (upd H x1 (.lst (ra.map V.ref))) D1 (.dK (kd L1)) D1 = some (.dK (kd L1)) := upd_same
    have s12 := s1.trans s2
    generalize upd (upd H x1 (.lst (ra.map V.ref))) D1 (.dK (kd L1)) = H1 at *
    refine ⟨_, rfl, b, _, 1, _, rfl, rfl, SqT.same s12 hb, atI_nat (j := 1) rfl, b2, _, rfl, .inr (SqT.same s12 hb2), fun x2 nx2 => ?_⟩
    have s3 := same_new (o := .lst (rb.map V.ref)) nx2
    refine ⟨x2, rb, kd L2, rfl, sqL_new, paired_kd (hrb.kp (Ly.Same.kp (s12.trans s3))), fun D2 nD2 => ?_⟩
    rw [dict_of (asc_nodup ok2.cn.asc)]
    have s4 := same_new (o := .dK (kd L2)) nD2
    have hD2 : upd (upd H1 x2 (.lst (rb.map V.ref))) D2 (.dK (kd L2)) D2 = some (.dK (kd L2)) := upd_same
    have hD1' := (s3.trans s4) _ _ hD1
    have s14 := s12.trans (s3.trans s4)
    generalize upd (upd H1 x2 (.lst (rb.map V.ref))) D2 (.dK (kd L2)) = H2 at *
    refine ⟨_, _, rfl, ?_⟩
    refine ⟨_, rfl, D1, kd L1, rfl, .inl hD1', fun x3 nx3 => ?_⟩
    rw [keys_kd]
    have s5 := same_new (o := .lst ((L1.map (·.1)).map V.int)) nx3
    have h3 : upd H2 x3 (.lst ((L1.map (·.1)).map V.int)) x3 = some (.lst ((L1.map (·.1)).map V.int)) := upd_same
    generalize upd H2 x3 (.lst ((L1.map (·.1)).map V.int)) = H3 at *
    refine ⟨_, rfl, D2, kd L2, rfl, .inl (s5 _ _ hD2), fun x4 nx4 => ?_⟩
    rw [keys_kd]
    have s6 := same_new (o := .lst ((L2.map (·.1)).map V.int)) nx4
    have h4 : upd H3 x4 (.lst ((L2.map (·.1)).map V.int)) x4 = some (.lst ((L2.map (·.1)).map V.int)) := upd_same
    generalize upd H3 x4 (.lst ((L2.map (·.1)).map V.int)) = H4 at *
    refine ⟨x3, x4, _, _, rfl, rfl, s6 _ _ h3, h4, by rw [List.length_map, List.length_map, List.length_map, List.length_map, sizeLine_eq]; omega, fun x5 nx5 => ?_⟩
    rw [← List.map_append]
    have s7 := same_new (o := .lst ((L1.map (·.1) ++ L2.map (·.1)).map V.int)) nx5
    have kl : (L1.map (·.1) ++ L2.map (·.1)).length = L1.length + L2.length := by rw [List.length_append, List.length_map, List.length_map]
    refine ⟨x5, _, rfl, sqL_new, by omega, fun x6 cc HS s8 hS hcc => ?_⟩
    refine ⟨x6, _, cc, rfl, hS, by omega, fun ps x7 asc mem pl nx7 => ?_⟩
    have s9 := same_new (o := .lst (ps.map V.int)) nx7
    have s29 := s5.trans (s6.trans (s7.trans (s8.trans s9)))
    have hx7 := sqL_new (K := K) (H := HS) (p := x7) (xs := ps.map V.int)
    generalize upd HS x7 (.lst (ps.map V.int)) = H5 at *
    have d1' := s29 _ _ hD1'
    have d2' := s29 _ _ hD2
    have s05 := s14.trans s29
    refine ⟨x7, rfl, ⟨_, hx7⟩, ?_⟩
    refine for_list (xs := ps.map V.int) (fun i σ H' => ∃ cost y, σ = [some (.ref a), some (.ref b), some (.int bt), some (.ref D1), some (.ref D2), some (.int cost), y] ∧ H5 = H') ⟨0, none, rfl, rfl⟩ ?_ ?_ ?_
    · rintro i σ H' _ ⟨_, _, _, rfl⟩; exact hx7
    · rintro i x σ H' hx ⟨cost, y, rfl, rfl⟩
      obtain ⟨p, hp, rfl⟩ := map_at hx
      have pm := (mem p).mp (List.mem_of_getElem? hp)
      have pb : 2 ≤ p ∧ p ≤ 1000 := by
        rcases List.mem_append.mp (of_decide_eq_true pm) with h | h
        · obtain ⟨z, hz, rfl⟩ := List.mem_map.mp h
          obtain ⟨m, e, pr, _⟩ := ok1.cn.pr z hz
          have := pr.two
          exact ⟨by omega, ok1.key z hz⟩
        · obtain ⟨z, hz, rfl⟩ := List.mem_map.mp h
          obtain ⟨m, e, pr, _⟩ := ok2.cn.pr z hz
          have := pr.two
          exact ⟨by omega, ok2.key z hz⟩
      have dlog : ∀ d : Int, 0 < d → d < 2 ^ 64 → d.natAbs.log2 < 9000 := fun d h0 h1 => by
        have : d.natAbs.log2 < 65 := (Nat.log2_lt (by omega)).mpr (by omega)
        omega
      have gb : ∀ (d : Int) (L : List (Int × Int)), AmOk d L → (ig L p).natAbs < 2 ^ 64 := fun d L ok => by
        rcases ig_cases L p with h | h
        · rw [h]; decide
        · exact ok.par _ h
      have qb : ∀ d : Int, 0 < d → (bt / d).natAbs < 2 ^ 20 := fun d h0 => by
        have h1 : bt / d ≤ bt := Int.ediv_le_self _ bt0
        have h2 : 0 ≤ bt / d := Int.ediv_nonneg bt0 (by omega)
        omega
      refine ⟨_, rfl, _, rfl, D1, rfl, .inl ⟨_, .inl d1'⟩, _, rfl, _, DGet.k (k := Sum.inl p) d1', _, rfl, _, rfl, a, _, 0, _, rfl, rfl, SqT.same s05 ha, atI_nat (j := 0) rfl, _, _, rfl, rfl, ⟨p1, dlog _ p1 l1⟩, ?_⟩
      refine ⟨_, _, kd_getD _ _, rfl, wide_mul (gb _ _ ok1) (qb _ p1) (by omega) (by omega) (by omega), ?_⟩
      refine ⟨_, rfl, D2, rfl, .inl ⟨_, .inl d2'⟩, _, rfl, _, DGet.k (k := Sum.inl p) d2', _, rfl, _, rfl, b, _, 0, _, rfl, rfl, SqT.same s05 hb, atI_nat (j := 0) rfl, _, _, rfl, rfl, ⟨p2, dlog _ p2 l2⟩, ?_⟩
      refine ⟨_, _, kd_getD _ _, rfl, wide_mul (gb _ _ ok2) (qb _ p2) (by omega) (by omega) (by omega), ?_⟩
      refine ⟨_, _, rfl, rfl, _, rfl, ?_⟩
      have u1 := wide_lt (gb _ _ ok1) (qb _ p1)
      have u2 := wide_lt (gb _ _ ok2) (qb _ p2)
      generalize ig L1 p * (bt / d1) = x1' at *
      generalize ig L2 p * (bt / d2) = x2' at *
      have ua : (if x1' - x2' < 0 then -(x1' - x2') else x1' - x2').natAbs < 2 ^ 90 := by split <;> omega
      obtain ⟨m, rfl⟩ : ∃ m : Nat, p = m := ⟨p.toNat, by omega⟩
      have ub : ((Builtin.Int.intBits (m : Int) : Nat) : Int).natAbs < 2 ^ 20 := by
        rw [bits_nat (by omega)]
        have : m.log2 < 11 := (Nat.log2_lt (by omega)).mpr (by omega)
        omega
      exact ⟨_, rfl, _, rfl, _, _, rfl, rfl, wide_mul ua ub (by omega) (by omega) (by omega), _, _, rfl, rfl, _, _, rfl, rfl⟩
    · rintro σ H' ⟨cost, y, rfl, rfl⟩
      exact ⟨_, rfl, _, _, rfl, rfl, q _ _ s05⟩
end
end K07

namespace K07
open PySem PySem.Spec PyProof.Rows L2 Ly Am
section
variable {d : Addr} {o : Obj} {kvs : List (Key × V)}
theorem for_keysL {g : TG} {tb : TS} {D : Ends} {σ : L2.St} {H : Hp} (Pv : Nat → L2.St → Hp → Prop) (h0 : Pv 0 σ H)
    (hl : ∀ i σ H, Pv i σ H → H d = some (.frz o (.dK kvs)))
    (hs : ∀ i k x σ H, kvs[i]? = some (k, x) → Pv i σ H → g (kV k) σ H fun σ2 H2 => tb { D with nx := Pv (i + 1), ct := Pv (i + 1), bk := D.nx } σ2 H2)
    (hd : ∀ σ H, Pv kvs.length σ H → D.nx σ H) :
    ∃ W : Nat → Nat → L2.St → Hp → Prop, (∃ m, W 0 m σ H) ∧ ∀ i m σ H, W i m σ H →
      ((Itk d o kvs).stop i H ∧ D.nx σ H) ∨ ((Itk d o kvs).go i H ∧ ∃ N : L2.St → Hp → Prop, (∀ σ' H', N σ' H' → ∃ m', m' < m ∧ W (i + 1) m' σ' H') ∧
        ∀ x H', (Itk d o kvs).yld i H x H' → g x σ H' fun σ2 H2 => tb { D with nx := N, ct := N, bk := D.nx } σ2 H2) := by
  refine ⟨fun i m σ H => m = kvs.length - i ∧ i ≤ kvs.length ∧ Pv i σ H, ⟨_, rfl, Nat.zero_le _, h0⟩, ?_⟩
  rintro i m σ H ⟨rfl, hi, p⟩
  by_cases lt : i < kvs.length
  · refine Or.inr ⟨⟨hl i σ H p, lt⟩, Pv (i + 1), fun σ' H' p' => ⟨kvs.length - (i + 1), by omega, rfl, lt, p'⟩, ?_⟩
    rintro x H' ⟨rfl, k, v, e, rfl⟩
    exact hs i k v σ _ e p
  · have e : i = kvs.length := by omega
    subst e
    exact Or.inl ⟨⟨hl _ σ H p, Nat.le_refl _⟩, hd σ H p⟩
end
theorem self_ig {L : List (Int × Int)} (nd : (L.map (·.1)).Nodup) : (L.map (·.1)).map (fun p => (p, ig L p)) = L := by
  rw [List.map_map]
  have : ∀ q ∈ L, ((fun p => (p, ig L p)) ∘ fun q : Int × Int => q.1) q = q := fun q hq => by
    show (q.1, ig L q.1) = q
    rw [ig_mem nd hq]
  rw [List.map_congr_left this]
  simp
theorem kd_keys (L : List (Int × Int)) : (kd L).map (·.1) = (L.map (·.1)).map Sum.inl := by
  unfold kd; rw [List.map_map, List.map_map]; rfl
theorem kd_get {L : List (Int × Int)} (nd : (L.map (·.1)).Nodup) {q : Int × Int} (hq : q ∈ L) : valV (kd L) (Sum.inl q.1) = some (V.int q.2) := by
  rw [kd_val]
  have h1 := ig_mem nd hq
  unfold ig at h1
  cases e : L.lookup q.1 with
  | none => exact absurd rfl ((lookup_none_iff _ _).mp e q hq)
  | some v => rw [e] at h1; show some (V.int v) = _; rw [show v = q.2 from h1]
theorem cost_cut (g : Int) (hg : 0 < g) : ∀ L : List (Int × Int), cost (cut g L) ≤ cost L
  | [] => Nat.le_refl _
  | q :: r => by
    have ih := cost_cut g hg r
    have e : cost (q :: r) = q.2.natAbs + cost r := rfl
    rw [e]
    by_cases z : q.2 = 0
    · have e2 : cut g (q :: r) = cut g r := by unfold cut; rw [List.filter_cons, if_neg (by simp [z])]
      rw [e2]; omega
    · have e2 : cut g (q :: r) = (q.1, q.2 / g) :: cut g r := by unfold cut; rw [List.filter_cons, if_pos (by simp [z]), List.map_cons]
      have e3 : cost ((q.1, q.2 / g) :: cut g r) = (q.2 / g).natAbs + cost (cut g r) := rfl
      have h := Int.natAbs_ediv_le_natAbs q.2 g
      rw [e2, e3]; omega
theorem cost_perm {L M : List (Int × Int)} (h : L.Perm M) : cost L = cost M := by
  have e : ∀ (q : Int × Int) (r : List (Int × Int)), cost (q :: r) = q.2.natAbs + cost r := fun q r => rfl
  induction h with
  | nil => rfl
  | cons x _ ih => rw [e, e, ih]
  | swap x y l => rw [e, e, e, e]; omega
  | trans _ _ h1 h2 => rw [h1, h2]
theorem dgL {H : Hp} {D : Addr} {L : List (Int × Int)} (h : Rd H D (.dK (kd L))) (nd : (L.map (·.1)).Nodup) {q : Int × Int} (hq : q ∈ L) : DGet H D (.int q.1) (some (V.int q.2)) := by
  have := kd_get nd hq
  rw [← this]
  exact .inl ⟨_, Sum.inl q.1, h, rfl, rfl⟩
section
variable {P : Program} {w : World} {K : PySem.W.Frag} {mg : Str → Option Value} {base : Heap}
def spFormed (K : PySem.W.Frag) : Sp := fun vs H Q _ => ∃ (b : Int) (D : Addr) (L : List (Int × Int)), vs = [.int b, .ref D] ∧ 0 < b ∧ b < 2 ^ 64 ∧ H D = some (.dK (kd L)) ∧ KeyOk L ∧ L.length < 64 ∧ (∀ q ∈ L, q.2.natAbs < 2 ^ 64) ∧
  ∀ v d L' H', Same H H' → AmtAt K H' v d L' → St4 d L' b (ig L) → L'.length ≤ L.length → cost L' ≤ cost L → Q v H'
theorem ca_L_formed (T : Tx K mg) : Ca P w K mg base 2 "_law_formed" s_L_formed ["_law_d", "_law_parts"] (spFormed K) := by
  have C_L_gcd := ca_L_gcd (P := P) (w := w) (base := base) T
  refine Ca.of (fd_L_formed T) sc_L_formed ?_ ?_
  · rintro vs H Q E ⟨b, D, L, rfl, _⟩; rfl
  · rintro f cdv A out s H vs Q E hr ⟨b, D, L, rfl, hb, hb2, hD, ko, hl, hq, q⟩
    refine ⟨_, (pss_cons (ps_set (i := 2) sc_L_formed.nd rfl (.inr rfl) (pv 0))
 (pss_cons (ps_lock (ps_for PassesOwn.never rfl (pi_keys (pv 1)) (pg_name (i := 3) sc_L_formed.nd rfl (.inl rfl))
 (pss_one (ps_set (i := 2) sc_L_formed.nd rfl (.inr rfl) (pe_ca C_L_gcd hr (pa_cons (pv 2) (pa_cons (pe_dget (hu_of hr) (pv 1) (pv 3) (fun _ _ => rfl)) pa_nil)))))))
 (pss_one (ps_ret (pe_tup (pa_cons (pe_op op_fdivW (pv 0) (pv 2)) (pa_cons (pe_callTy call_tuple_of (by rfl) T.f_tuple (by decide +kernel) (pa_cons (pe_lc (own := [("_law_p", 3)]) rfl sc_L_formed.nd (pi_list (pe_callB (call_sortedDI rfl) (by rfl) T.f_sorted (by decide +kernel) (pa_cons (pv 1) pa_nil))) (blkOk_by (own := [("_law_p", 3)]) (N := n_L_formed) (sc := (defScope s_L_formed)) (by decide +kernel)) (fun _ _ _ _ _ => (pg_name (i := 3) sc_L_formed.nd rfl (Or.inl rfl) (Or.inr rfl))) (fun _ _ _ _ _ => (pts_one (pt_cmpR op_ne (pe_dget (hu_of hr) (pv 1) (pv 3) (fun _ _ => rfl)) pe_int (nomark _)))) (fun _ _ _ _ _ => (pe_tup (pa_cons (pv 3) (pa_cons (pe_op op_fdivW (pe_dget (hu_of hr) (pv 1) (pv 3) (fun _ _ => rfl)) (pv 2)) pa_nil))))) pa_nil)) pa_nil))))))), ?_⟩
    have nd := ko.nd
    refine ⟨_, rfl, ?_⟩
    refine ⟨D, _, hD, trivial, fun od => ?_⟩
    refine ⟨_, rfl, D, od, rfl, .inl ⟨_, upd_same, ?_⟩⟩
    have back : upd (upd H D (.frz od (.dK (kd L)))) D (.dK (kd L)) = H := by
      rw [upd_upd]
      funext x
      by_cases h : x = D
      · rw [h, upd_same, hD]
      · rw [upd_ne h]
    refine for_keysL (fun i σ H' => ∃ y3, σ = [some (.int b), some (.ref D), some (.int (gl b ((L.take i).map (·.2)))), y3] ∧ H' = upd H D (.frz od (.dK (kd L)))) ⟨_, rfl, rfl⟩ ?_ ?_ ?_
    · rintro i σ H' ⟨y3, _, rfl⟩; exact upd_same
    · rintro i k x σ H' hk ⟨y3, rfl, rfl⟩
      obtain ⟨c, hc, rfl, rfl⟩ := kd_at hk
      have cm := List.mem_of_getElem? hc
      have hg : gl b ((L.take i).map (·.2)) ≤ b := gl_le _ hb
      refine ⟨_, rfl, _, rfl, _, rfl, D, _, rfl, dgL (.inr ⟨od, upd_same⟩) nd cm, _, _, rfl, hq c cm, some (.int c.1), ?_, rfl⟩
      rw [take_snoc _ hc, gl_snoc]
      rfl
    · rintro σ H' ⟨y3, rfl, rfl⟩
      refine ⟨upd_same, ?_⟩
      rw [back]
      rw [kd_len, List.take_of_length_le (Nat.le_refl _)]
      have g0 : 0 < gl b (L.map (·.2)) := gl_pos _ _ hb
      have gle : gl b (L.map (·.2)) ≤ b := gl_le _ hb
      generalize eg : gl b (L.map (·.2)) = g at *
      have glog : g.natAbs.log2 < 9000 := by
        have : g.natAbs.log2 < 65 := (Nat.log2_lt (by omega)).mpr (by omega)
        omega
      refine ⟨_, rfl, _, rfl, _, _, rfl, rfl, ⟨g0, glog⟩, ?_⟩
      refine ⟨_, rfl, D, kd L, L.map (·.1), rfl, .inl hD, kd_keys L, by rw [List.length_map]; exact hl, fun ys yl perm asc nyl => ?_⟩
      have s1 := same_new (o := .lst (ys.map V.int)) nyl
      have hyl := sqL_new (K := K) (H := H) (p := yl) (xs := ys.map V.int)
      generalize upd H yl (.lst (ys.map V.int)) = H1 at *
      have hD1 := s1 _ _ hD
      have yn : ys.Nodup := perm.nodup_iff.mpr nd
      have ylt : ys.Pairwise (· < ·) := lt_of_le_nodup ys asc yn
      have ylen : ys.length < 64 := by rw [perm.length_eq, List.length_map]; exact hl
      obtain ⟨Ls, hLs⟩ : ∃ Ls, ys.map (fun p => (p, ig L p)) = Ls := ⟨_, rfl⟩
      have pL : Ls.Perm L := by
        have h := perm.map (fun p => (p, ig L p))
        rw [self_ig nd] at h
        rw [← hLs]; exact h
      refine ⟨yl, rfl, ⟨_, hyl⟩, fun Dl nDl => ?_⟩
      refine lc_list (xs := ys.map V.int) (fun i H' => ∃ rs, H' Dl = some (.lst (rs.map V.ref)) ∧ TrP H' rs (cut g (Ls.take i)) ∧ Same H1 H') ?_ ?_ ?_ ?_
      · exact ⟨[], upd_same, .nil, same_new nDl⟩
      · rintro i H' _ ⟨rs, _, _, sm⟩
        exact sm.seq hyl
      · rintro i x H' hx ⟨rs, hDl, tr, sm⟩
        obtain ⟨pp, hp, rfl⟩ := map_at hx
        have hc : Ls[i]? = some (pp, ig L pp) := by rw [← hLs, List.getElem?_map, hp]; rfl
        have cm : (pp, ig L pp) ∈ L := pL.mem_iff.mp (List.mem_of_getElem? hc)
        have hD2 := sm _ _ hD1
        have e1 : (!decide (V.int (ig L pp) = V.int 0)) = !decide (ig L pp = 0) := by
          congr 1
          exact decide_eq_decide.mpr ⟨fun z => V.int.inj z, fun z => congrArg V.int z⟩
        refine ⟨rfl, ?_⟩
        refine ⟨_, rfl, _, rfl, D, _, rfl, dgL (.inl hD2) nd cm, rfl, ?_⟩
        refine ⟨_, rfl, ?_⟩
        rw [e1]
        have rl : rs.length = (cut g (Ls.take i)).length := Paired.length tr
        have rlen : rs.length ≤ 64 := by
          have h1 := cut_len g (Ls.take i)
          have h2 : (Ls.take i).length ≤ Ls.length := by rw [List.length_take]; omega
          have h3 := pL.length_eq
          omega
        by_cases z : ig L pp = 0
        · rw [decide_eq_true z]
          refine iteF ⟨rs, hDl, ?_, sm⟩
          rw [cut_snoc hc, if_pos z]
          exact tr
        · rw [decide_eq_false z]
          refine iteT ?_
          refine ⟨_, rfl, _, rfl, _, rfl, D, _, rfl, dgL (.inl hD2) nd cm, _, rfl, _, _, rfl, rfl, ⟨g0, glog⟩, by show 2 ≤ sizeLine; rw [sizeLine_eq]; omega, fun p2 np2 => ?_⟩
          have s3 := same_new (o := .tup [V.int pp, V.int (ig L pp / g)]) np2
          refine ⟨_, s3 _ _ hDl, by rw [List.length_map]; exact small1000 (by omega), rs ++ [p2], ?_, ?_, same_write nDl (sm.trans s3)⟩
          · rw [upd_same, List.map_append]; rfl
          · rw [cut_snoc hc, if_neg z]
            have pD : p2 ≠ Dl := fun e => ne_of_none hDl np2 e.symm
            refine paired_snoc ?_ ?_
            · rw [upd_ne pD]; exact upd_same
            · exact (tr.same s3).kp (fun b o e n1 _ => by
                by_cases h : b = Dl
                · subst h; rw [s3 _ _ hDl] at e; exact absurd (Option.some.inj e).symm (n1 _)
                · rw [upd_ne h]; exact e)
      · rintro H2 ⟨rs, hDl, tr, sm⟩
        rw [List.length_map] at tr
        have ll : Ls.length = ys.length := by rw [← hLs, List.length_map]
        rw [← ll, List.take_of_length_le (Nat.le_refl _)] at tr
        refine ⟨Dl, _, rfl, .inl ⟨.inl (.inl hDl), fun b2 nb2 => ?_⟩⟩
        have s2 := same_new (o := .tup (rs.map V.ref)) nb2
        refine ⟨by show 2 ≤ sizeLine; rw [sizeLine_eq]; omega, fun v2 nv2 => ?_⟩
        have s3 := same_new (o := .tup [V.int (b / g), V.ref b2]) nv2
        have st : St4 (b / gl b (L.map (·.2))) (cut g Ls) b (ig L) := cn_made hb nd ko.pr (by
          rw [eg]
          exact (pL.filter _).map _) (by
          have hp2 : Ls.Pairwise (fun a b => a.1 < b.1) := by
            rw [← hLs, List.pairwise_map]; exact ylt
          unfold cut
          rw [List.pairwise_map]
          exact (hp2.filter _).imp fun {a b} h => h)
        rw [eg] at st
        refine q (.ref v2) (b / g) (cut g Ls) _ ((s1.trans sm).trans (s2.trans s3)) ⟨v2, b2, rs, rfl, sqT_new, SqT.same s3 sqT_new, ?_⟩ st (by have h1 := cut_len g Ls; have h2 := pL.length_eq; omega) (by
          have h1 := cost_cut g g0 Ls
          have h2 : cost Ls = cost L := cost_perm pL
          omega)
        exact ((tr.same s2).same s3).pairs
end
end K07

namespace K07
open PySem PySem.Spec PyProof.Rows L2 Ly Am
/-- what the law's amounts are: in the one form, primes below 1,000 -/
structure Aq (d : Int) (L : List (Int × Int)) : Prop where
  cn : Cn d L
  dl : d ≤ 1000
  key : ∀ q ∈ L, q.1 ≤ 1000
  few : L.length ≤ 20
  sum : cost L ≤ 20000
theorem Aq.ok {d : Int} {L : List (Int × Int)} (a : Aq d L) : AmOk d L := ⟨a.cn, by have := a.dl; omega, a.key, fun q hq => by
  have h1 := cost_mem hq
  have := a.sum
  omega⟩
theorem ordI_eq (T B : Int) : (if decide (B < T) = true then (1 : Int) else 0) - (if decide (T < B) = true then (1 : Int) else 0) = ordI T B := by
  unfold ordI
  simp only [decide_eq_true_eq]
theorem ordI_small (T B : Int) : (ordI T B).natAbs < 2 ^ 64 := by unfold ordI; split <;> split <;> omega
theorem take_snoc' {α : Type} {L : List α} {i : Nat} {q : α} (h : L[i]? = some q) : L.take (i + 1) = L.take i ++ [q] := by rw [List.take_add_one, h]; rfl
theorem cost_snoc (L : List (Int × Int)) (q : Int × Int) : cost (L ++ [q]) = cost L + q.2.natAbs := by unfold cost; simp
/-- what an amount costs, by the digits of its primes -/
def wct (L : List (Int × Int)) : Nat := (L.map fun q => q.2.natAbs * (q.1.toNat.log2 + 1)).sum
theorem wct_snoc (L : List (Int × Int)) (q : Int × Int) : wct (L ++ [q]) = wct L + q.2.natAbs * (q.1.toNat.log2 + 1) := by unfold wct; simp
theorem wct_cost : ∀ {L : List (Int × Int)}, (∀ q ∈ L, 2 ≤ q.1) → 2 * cost L ≤ wct L
  | [], _ => Nat.le_refl _
  | q :: r, h => by
    have ih := wct_cost (L := r) fun x hx => h x (List.mem_cons_of_mem _ hx)
    have e : cost (q :: r) = q.2.natAbs + cost r := rfl
    have e2 : wct (q :: r) = q.2.natAbs * (q.1.toNat.log2 + 1) + wct r := rfl
    have l1 : 1 ≤ q.1.toNat.log2 := (Nat.le_log2 (by have := h q List.mem_cons_self; omega)).mpr (by have := h q List.mem_cons_self; omega)
    have m : q.2.natAbs * 2 ≤ q.2.natAbs * (q.1.toNat.log2 + 1) := Nat.mul_le_mul_left _ (by omega)
    rw [e, e2]; omega
theorem wct_le : ∀ {L : List (Int × Int)}, (∀ q ∈ L, q.1 ≤ 1000) → wct L ≤ 10 * cost L
  | [], _ => Nat.le_refl _
  | q :: r, h => by
    have ih := wct_le (L := r) fun x hx => h x (List.mem_cons_of_mem _ hx)
    have e : cost (q :: r) = q.2.natAbs + cost r := rfl
    have e2 : wct (q :: r) = q.2.natAbs * (q.1.toNat.log2 + 1) + wct r := rfl
    have l9 : q.1.toNat.log2 ≤ 9 := by
      by_cases z : q.1.toNat = 0
      · rw [z]; exact Nat.zero_le _
      · have := (Nat.log2_lt z).mpr (show q.1.toNat < 2 ^ 10 by have := h q List.mem_cons_self; omega)
        omega
    have m : q.2.natAbs * (q.1.toNat.log2 + 1) ≤ q.2.natAbs * 10 := Nat.mul_le_mul_left _ (by omega)
    rw [e, e2]; omega
section
variable {P : Program} {w : World} {K : PySem.W.Frag} {mg : Str → Option Value} {base : Heap}
def spCost (K : PySem.W.Frag) : Sp := fun vs H Q _ => ∃ (v : V) (d : Int) (L : List (Int × Int)), vs = [v] ∧ AmtAt K H v d L ∧ (∀ q ∈ L, 2 ≤ q.1 ∧ q.1 ≤ 1000 ∧ q.2.natAbs < 2 ^ 64) ∧ L.length ≤ 60 ∧
  ∀ H', Same H H' → Q (.int (wct L)) H'
theorem ca_L_cost (T : Tx K mg) : Ca P w K mg base 1 "_law_cost" s_L_cost ["_law_amount"] (spCost K) := by
  refine Ca.of (fd_L_cost T) sc_L_cost ?_ ?_
  · rintro vs H Q E ⟨v, d, L, rfl, _⟩; rfl
  · rintro f cdv A out s H vs Q E hr ⟨v, d, L, rfl, ⟨a, b, rs, rfl, h1, h2, h3⟩, hb, hl, q⟩
    refine ⟨_, (pss_one (ps_ret (pe_callB (cr_sum rfl) (by rfl) T.f_sum (by decide +kernel) (pa_cons (pe_lc (own := [("_law_p", 1), ("_law_c", 2)]) rfl sc_L_cost.nd (pi_tup (pe_ix ix_tup (pv 0) pe_int (fun _ _ => rfl))) (blkOk_by (own := [("_law_p", 1), ("_law_c", 2)]) (N := n_L_cost) (sc := (defScope s_L_cost)) (by decide +kernel)) (fun _ _ _ _ _ => (pg_tupK (K := K) 2 rfl (pgs_cons (pg_name (i := 1) sc_L_cost.nd rfl (Or.inl rfl) (Or.inr rfl)) (pgs_cons (pg_name (i := 2) sc_L_cost.nd rfl (Or.inl rfl) (Or.inr rfl)) pgs_nil)))) (fun _ _ _ _ _ => pts_nil) (fun _ _ _ _ _ => (pe_op op_mulW (pe_callB call_abs (by rfl) T.f_abs (by decide +kernel) (pa_cons (pv 2) pa_nil)) (pe_bits (pv 1))))) pa_nil)))), ?_⟩
    have rl : rs.length = L.length := Paired.length h3
    refine ⟨_, rfl, a, _, 1, _, rfl, rfl, h1, atI_nat (j := 1) rfl, b, rfl, ⟨_, h2⟩, fun Dl nDl => ?_⟩
    refine lc_tup (xs := rs.map V.ref) (fun i H' => ∃ cs : List Int, H' Dl = some (.lst (cs.map V.int)) ∧ cs.length = i ∧ cs.sum = wct (L.take i) ∧ Same H H') ?_ ?_ ?_ ?_
    · exact ⟨[], upd_same, rfl, rfl, same_new nDl⟩
    · rintro i H' _ ⟨cs, _, _, _, sm⟩; exact SqT.same sm h2
    · rintro i x H' hx ⟨cs, hDl, cl, hc, sm⟩
      obtain ⟨r, hr1, rfl⟩ := map_at hx
      obtain ⟨u, hu, hut⟩ := Paired.at' h3 hr1
      obtain ⟨b1, b2, b3⟩ := hb u (List.mem_of_getElem? hu)
      have il : i < rs.length := (List.getElem?_eq_some_iff.mp hr1).1
      refine ⟨r, _, rfl, SqT.same sm hut, rfl, _, _, rfl, _, [], rfl, rfl, rfl, ?_⟩
      obtain ⟨p, hp⟩ : ∃ p : Nat, u.1 = p := ⟨u.1.toNat, by omega⟩
      have bits : Builtin.Int.intBits u.1 = p.log2 + 1 := by rw [hp]; exact bits_nat (by omega)
      have l10 : p.log2 < 10 := (Nat.log2_lt (by omega)).mpr (by omega)
      have l1 : 1 ≤ p.log2 := (Nat.le_log2 (by omega)).mpr (by omega)
      refine ⟨_, rfl, _, rfl, _, rfl, _, rfl, _, _, rfl, rfl, wide_mul (a := 64) (b := 20) (by split <;> omega) (by rw [bits]; omega) (by omega) (by omega) (by omega), _, hDl, by rw [List.length_map]; exact small1000 (by omega), cs ++ [(if u.2 < 0 then -u.2 else u.2) * ((Builtin.Int.intBits u.1 : Nat) : Int)], ?_, ?_, ?_, same_write nDl sm⟩
      · rw [upd_same, List.map_append]; rfl
      · rw [List.length_append, cl]; rfl
      · rw [take_snoc' hu, wct_snoc, List.sum_append, List.sum_singleton, bits, hc]
        have e : (if u.2 < 0 then -u.2 else u.2) = ((u.2.natAbs : Nat) : Int) := by split <;> omega
        have e3 : u.1.toNat = p := by omega
        rw [e, e3]
        have m2 : ((u.2.natAbs * (p.log2 + 1) : Nat) : Int) = ((u.2.natAbs : Nat) : Int) * ((p.log2 + 1 : Nat) : Int) := Int.natCast_mul _ _
        rw [← m2]
        omega
    · rintro H2 ⟨cs, hDl, cl, hc, sm⟩
      rw [List.length_map, rl, List.take_of_length_le (Nat.le_refl _)] at hc
      refine ⟨Dl, cs, rfl, .inl (.inl hDl), ?_⟩
      rw [hc]; exact q H2 sm
def spOrd (K : PySem.W.Frag) : Sp := fun vs H Q _ => ∃ (v : V) (d : Int) (L : List (Int × Int)) (n : Nat), vs = [v] ∧ AmtAt K H v d L ∧ Fits n 1 L ∧ ∀ H', Same H H' → Q (.int (sgn L)) H'
theorem ca_L_order (T : Tx K mg) : Ca P w K mg base 3 "_law_order" s_L_order ["_law_amount"] (spOrd K) := by
  have C_L_sides := ca_L_sides (P := P) (w := w) (base := base) T
  refine Ca.of (fd_L_order T) sc_L_order ?_ ?_
  · rintro vs H Q E ⟨v, d, L, n, rfl, _⟩; rfl
  · rintro f cdv A out s H vs Q E hr ⟨v, d, L, n, rfl, am, ft, q⟩
    refine ⟨_, (pss_cons (ps_asg (pe_ca C_L_sides hr (pa_cons (pv 0) pa_nil)) (pg_tup rfl (pgs_cons (pg_name (i := 1) sc_L_order.nd rfl (.inl rfl)) (pgs_cons (pg_name (i := 2) sc_L_order.nd rfl (.inl rfl)) pgs_nil))))
 (pss_one (ps_ret (pe_op op_sub (pe_callTy call_int1 (by rfl) T.f_int (by decide +kernel) (pa_cons (pe_cmpR op_gt (pv 1) (pv 2) (nomark _)) pa_nil)) (pe_callTy call_int1 (by rfl) T.f_int (by decide +kernel) (pa_cons (pe_cmpR op_lt (pv 1) (pv 2) (nomark _)) pa_nil)))))), ?_⟩
    refine ⟨_, rfl, v, d, L, n, rfl, am, ft, fun t H1 s1 ht => ?_⟩
    refine ⟨t, _, rfl, ht, rfl, _, _, rfl, _, [], rfl, rfl, ?_⟩
    refine ⟨_, rfl, _, rfl, _, _, rfl, rfl, .inr ⟨_, rfl, ?_⟩⟩
    refine ⟨_, rfl, _, rfl, _, _, rfl, rfl, .inr ⟨_, rfl, _, _, rfl, rfl, ?_⟩⟩
    have z := q H1 s1
    have e : sgn L = (if decide (dn 1 L < up 1 L) = true then (1 : Int) else 0) - (if decide (up 1 L < dn 1 L) = true then (1 : Int) else 0) := by
      rw [ordI_eq]
      unfold sgn ordI
      split <;> (try split) <;> (try split) <;> (try split) <;> omega
    rw [e] at z
    exact z
end
end K07

set_option exponentiation.threshold 20000
namespace K07
open PySem PySem.Spec PyProof.Rows L2 Ly Am
theorem pr_dec {n : Nat} (h2 : 2 ≤ n) (h : n < 1024) (a : (List.range 32).all (fun d => decide (d < 2) || decide (n < d * d) || decide (n % d ≠ 0)) = true) : Pr n := by
  refine (pr_sq h2).mp fun d d2 dd => ?_
  have d32 : d < 32 := by
    apply Classical.byContradiction
    intro c
    have : 32 * 32 ≤ d * d := Nat.mul_le_mul (by omega) (by omega)
    omega
  have := List.all_eq_true.mp a d (List.mem_range.mpr d32)
  simp at this
  omega
/-- an amount of the law's making -/
structure Ar (d : Int) (L : List (Int × Int)) : Prop where
  cn : Cn d L
  dl : d ≤ 1000
  key : ∀ q ∈ L, q.1 ≤ 1000
  few : L.length ≤ 20
  par : ∀ q ∈ L, q.2.natAbs < 2 ^ 40
theorem Ar.ok {d : Int} {L : List (Int × Int)} (a : Ar d L) : AmOk d L := ⟨a.cn, by have := a.dl; omega, a.key, fun q hq => by have := a.par q hq; omega⟩
/-- parts to be formed -/
structure Pq (L : List (Int × Int)) : Prop where
  ok : KeyOk L
  few : L.length ≤ 20
  key : ∀ q ∈ L, q.1 ≤ 1000
  par : ∀ q ∈ L, q.2.natAbs < 2 ^ 40
theorem Pq.ar {L L' : List (Int × Int)} {d b : Int} (h : Pq L) (st : St4 d L' b (ig L)) (hb : 0 < b) (hb2 : b ≤ 1000) (hl : L'.length ≤ L.length) : Ar d L' := by
  refine ⟨st.1, by have := st.le hb; omega, fun q hq => ?_, by have := h.few; omega, fun q hq => ?_⟩
  · have nz := st.zero hb hq
    rcases ig_cases L q.1 with e | e
    · exact absurd e nz
    · exact h.key (q.1, ig L q.1) e
  · have h1 := st.abs hb q.1
    rw [ig_mem (asc_nodup st.1.asc) hq] at h1
    rcases ig_cases L q.1 with e | e
    · rw [e] at h1; simp at h1; omega
    · have := h.par _ e
      have h2 : (q.1, ig L q.1).2 = ig L q.1 := rfl
      omega
theorem Pq.neg {L : List (Int × Int)} (h : Pq L) : Pq (L.map fun q => (q.1, -q.2)) := by
  refine ⟨⟨?_, fun q hq => ?_⟩, by rw [List.length_map]; exact h.few, fun q hq => ?_, fun q hq => ?_⟩
  · rw [List.map_map]; exact h.ok.nd
  · obtain ⟨x, hx, rfl⟩ := List.mem_map.mp hq
    exact h.ok.pr x hx
  · obtain ⟨x, hx, rfl⟩ := List.mem_map.mp hq
    exact h.key x hx
  · obtain ⟨x, hx, rfl⟩ := List.mem_map.mp hq
    have := h.par x hx
    show (-x.2).natAbs < _
    omega
theorem pairsAt_kd {K : PySem.W.Frag} {H : Hp} {rs : List Addr} {L : List (Int × Int)} (h : TrP H rs L) : Paired (fun p kv => SqT K H p [kV kv.1, kv.2]) rs (kd L) := paired_kd h.pairs
def prs : List (Nat × Nat) := [(2, 3), (3, 5), (2, 5), (7, 11), (2, 997), (3, 2), (5, 2), (13, 2), (991, 997), (31, 2)]
theorem prs_ok : ∀ x ∈ prs, 2 ≤ x.1 ∧ 2 ≤ x.2 ∧ x.1 < 1000 ∧ x.2 < 1000 ∧ x.1 ≠ x.2 ∧ (List.range 32).all (fun d => decide (d < 2) || decide (x.1 < d * d) || decide (x.1 % d ≠ 0)) = true ∧ (List.range 32).all (fun d => decide (d < 2) || decide (x.2 < d * d) || decide (x.2 % d ≠ 0)) = true ∧
    x.2 ∈ [2, 3, 5, 7, 11, 997] ∧ x.1 ∉ [17, 19, 23, 101] ∧ x.2 ∉ [17, 19, 23, 101] := by decide
def dq : List (Key × V) := kd [(2, 1000), (3, 1585), (5, 2322), (7, 2807), (11, 3459), (997, 9961)]
theorem dq_get : ∀ b : Nat, b ∈ [2, 3, 5, 7, 11, 997] → ∃ y : Int, valV (mergeK [] dq) (Sum.inl (b : Int)) = some (V.int y) ∧ 1000 ≤ y ∧ y ≤ 9961 := by
  intro b hb
  simp only [List.mem_cons, List.not_mem_nil, or_false] at hb
  rcases hb with rfl | rfl | rfl | rfl | rfl | rfl <;> exact ⟨_, rfl, by omega, by omega⟩
theorem rs_ok : ∀ r : Nat, r ∈ [17, 19, 23, 101] → Pr r ∧ r < 1000 := by
  intro r hr
  simp only [List.mem_cons, List.not_mem_nil, or_false] at hr
  rcases hr with rfl | rfl | rfl | rfl <;> exact ⟨pr_dec (by omega) (by omega) (by decide), by omega⟩
section
variable {P : Program} {w : World} {K : PySem.W.Frag} {mg : Str → Option Value} {base : Heap}
def spNearD (K : PySem.W.Frag) : Sp := fun vs H Q _ => ∃ (D C : Addr) (n : Nat) (size : Int), vs = [.ref D, .int size] ∧ DeckAt H D C n ∧ n < 2 ^ 28 ∧ 0 < size ∧ size ≤ 1500 ∧
  ∀ v d L H', Ot D C H H' → DeckAt H' D C (n + 20) → AmtAt K H' v d L → Ar d L → Q v H'

theorem ca_L_near (T : Tx K mg) : Ca P w K mg base 3 "_law_near" s_L_near ["_law_deck_here", "_law_size"] (spNearD K) := by
  have C_L_draw := ca_L_draw (P := P) (w := w) (base := base) T
  have C_L_pick := ca_L_pick (P := P) (w := w) (base := base) T
  have C_L_power := ca_L_power (P := P) (w := w) (base := base) T
  have C_L_formed := ca_L_formed (P := P) (w := w) (base := base) T
  refine Ca.of (fd_L_near T) sc_L_near ?_ ?_
  · rintro vs H Q E ⟨D, C, n, size, rfl, _⟩; rfl
  · rintro f cdv A out s H vs Q E hr ⟨D, C, n, size, rfl, da, hn, sz0, sz1, q⟩
    refine ⟨_, (pss_cons (ps_asg (pe_ca C_L_pick hr (pa_cons (pv 0) (pa_cons (pe_tup (pa_cons (pe_tup (pa_cons pe_int (pa_cons pe_int pa_nil))) (pa_cons (pe_tup (pa_cons pe_int (pa_cons pe_int pa_nil))) (pa_cons (pe_tup (pa_cons pe_int (pa_cons pe_int pa_nil))) (pa_cons (pe_tup (pa_cons pe_int (pa_cons pe_int pa_nil))) (pa_cons (pe_tup (pa_cons pe_int (pa_cons pe_int pa_nil))) (pa_cons (pe_tup (pa_cons pe_int (pa_cons pe_int pa_nil))) (pa_cons (pe_tup (pa_cons pe_int (pa_cons pe_int pa_nil))) (pa_cons (pe_tup (pa_cons pe_int (pa_cons pe_int pa_nil))) (pa_cons (pe_tup (pa_cons pe_int (pa_cons pe_int pa_nil))) (pa_cons (pe_tup (pa_cons pe_int (pa_cons pe_int pa_nil))) pa_nil))))))))))) pa_nil))) (pg_tup rfl (pgs_cons (pg_name (i := 2) sc_L_near.nd rfl (.inl rfl)) (pgs_cons (pg_name (i := 3) sc_L_near.nd rfl (.inl rfl)) pgs_nil))))
 (pss_cons (ps_set (i := 4) sc_L_near.nd rfl (.inl rfl) (pe_op op_add pe_int (pe_ca C_L_draw hr (pa_cons (pv 0) (pa_cons (pv 1) pa_nil)))))
 (pss_cons (ps_set (i := 5) sc_L_near.nd rfl (.inl rfl) (pe_ca C_L_draw hr (pa_cons (pv 0) (pa_cons pe_int pa_nil))))
 (pss_cons (ps_set (i := 6) sc_L_near.nd rfl (.inl rfl) (pe_ca C_L_power hr (pa_cons (pv 2) (pa_cons (pv 4) pa_nil))))
 (pss_cons (ps_set (i := 5) sc_L_near.nd rfl (.inl rfl) (pe_op op_add (pv 5) (pe_op op_fdivW (pe_op op_mulW (pe_op op_sub (pe_bits (pv 6)) pe_int) pe_int) (pe_callB (call_max2 rfl) (by rfl) T.f_max (by decide +kernel) (pa_cons pe_int (pa_cons (pe_dget (hu_of hr) (pe_disp (pps_cons pe_int pe_int (pps_cons pe_int pe_int (pps_cons pe_int pe_int (pps_cons pe_int pe_int (pps_cons pe_int pe_int (pps_cons pe_int pe_int pps_nil)))))) (by rfl) (by rfl) (fun z => by cases z) (by decide)) (pv 3) (fun _ _ => rfl)) pa_nil))))))
 (pss_cons (ps_set (i := 7) sc_L_near.nd rfl (.inr rfl) (pe_disp (pps_cons (pv 2) (pv 4) (pps_cons (pv 3) (pe_un un_neg (pv 5)) pps_nil)) (by rfl) (by rfl) (fun z => by cases z) (by decide)))
 (pss_cons (ps_if (pt_cmpR op_eq (pe_ca C_L_draw hr (pa_cons (pv 0) (pa_cons pe_int pa_nil))) pe_int (nomark _))
 (pss_cons (ps_set (i := 8) sc_L_near.nd rfl (.inl rfl) (pe_ca C_L_pick hr (pa_cons (pv 0) (pa_cons (pe_tup (pa_cons pe_int (pa_cons pe_int (pa_cons pe_int (pa_cons pe_int pa_nil))))) pa_nil))))
 (pss_one (ps_dput (hu_of hr) (pv 7) (pv 8) (pe_op op_sub (pe_ca C_L_draw hr (pa_cons (pv 0) (pa_cons pe_int pa_nil))) pe_int) rfl)))
 pss_nil)
 (pss_cons (ps_if (pt_cmpR op_eq (pe_ca C_L_draw hr (pa_cons (pv 0) (pa_cons pe_int pa_nil))) pe_int (nomark _))
 (pss_one (ps_set (i := 7) sc_L_near.nd rfl (.inr rfl) (pe_callTy (call_dictP rfl) (by rfl) T.f_dict (by decide +kernel) (pa_cons (pe_lock (pe_lc (own := [("_law_r", 8)]) rfl sc_L_near.nd (pi_keys (pv 7)) (blkOk_by (own := [("_law_r", 8)]) (N := n_L_near) (sc := (defScope s_L_near)) (by decide +kernel)) (fun _ _ _ _ _ => (pg_name (i := 8) sc_L_near.nd rfl (Or.inl rfl) (Or.inr rfl))) (fun _ _ _ _ _ => pts_nil) (fun _ _ _ _ _ => (pe_tup (pa_cons (pv 8) (pa_cons (pe_un un_neg (pe_dget (hu_of hr) (pv 7) (pv 8) (fun _ _ => rfl))) pa_nil)))))) pa_nil))))
 pss_nil)
 (pss_one (ps_ret (pe_ca C_L_formed hr (pa_cons (pe_op op_add pe_int (pe_ca C_L_draw hr (pa_cons (pv 0) (pa_cons (pe_ifExp (pt_cmpR op_eq (pe_ca C_L_draw hr (pa_cons (pv 0) (pa_cons pe_int pa_nil))) pe_int (nomark _)) pe_int pe_int) pa_nil)))) (pa_cons (pv 7) pa_nil))))))))))))), ?_⟩
    have z2 : 2 ≤ sizeLine := by rw [sizeLine_eq]; omega
    have z10 : 10 ≤ sizeLine := by rw [sizeLine_eq]; omega
    refine ⟨_, rfl, z2, fun p0 np0 => ?_⟩
    have y0 := same_new (o := .tup [V.int 2, V.int 3]) np0
    have k0 : SqT K (upd H p0 (.tup [V.int 2, V.int 3])) p0 [V.int ((2 : Nat) : Int), V.int ((3 : Nat) : Int)] := sqT_new
    generalize upd H p0 (.tup [V.int 2, V.int 3]) = G0 at *
    refine ⟨z2, fun p1 np1 => ?_⟩
    have y1 := same_new (o := .tup [V.int 3, V.int 5]) np1
    have k1 : SqT K (upd G0 p1 (.tup [V.int 3, V.int 5])) p1 [V.int ((3 : Nat) : Int), V.int ((5 : Nat) : Int)] := sqT_new
    have k0 := SqT.same y1 k0
    generalize upd G0 p1 (.tup [V.int 3, V.int 5]) = G1 at *
    refine ⟨z2, fun p2 np2 => ?_⟩
    have y2 := same_new (o := .tup [V.int 2, V.int 5]) np2
    have k2 : SqT K (upd G1 p2 (.tup [V.int 2, V.int 5])) p2 [V.int ((2 : Nat) : Int), V.int ((5 : Nat) : Int)] := sqT_new
    have k0 := SqT.same y2 k0
    have k1 := SqT.same y2 k1
    generalize upd G1 p2 (.tup [V.int 2, V.int 5]) = G2 at *
    refine ⟨z2, fun p3 np3 => ?_⟩
    have y3 := same_new (o := .tup [V.int 7, V.int 11]) np3
    have k3 : SqT K (upd G2 p3 (.tup [V.int 7, V.int 11])) p3 [V.int ((7 : Nat) : Int), V.int ((11 : Nat) : Int)] := sqT_new
    have k0 := SqT.same y3 k0
    have k1 := SqT.same y3 k1
    have k2 := SqT.same y3 k2
    generalize upd G2 p3 (.tup [V.int 7, V.int 11]) = G3 at *
    refine ⟨z2, fun p4 np4 => ?_⟩
    have y4 := same_new (o := .tup [V.int 2, V.int 997]) np4
    have k4 : SqT K (upd G3 p4 (.tup [V.int 2, V.int 997])) p4 [V.int ((2 : Nat) : Int), V.int ((997 : Nat) : Int)] := sqT_new
    have k0 := SqT.same y4 k0
    have k1 := SqT.same y4 k1
    have k2 := SqT.same y4 k2
    have k3 := SqT.same y4 k3
    generalize upd G3 p4 (.tup [V.int 2, V.int 997]) = G4 at *
    refine ⟨z2, fun p5 np5 => ?_⟩
    have y5 := same_new (o := .tup [V.int 3, V.int 2]) np5
    have k5 : SqT K (upd G4 p5 (.tup [V.int 3, V.int 2])) p5 [V.int ((3 : Nat) : Int), V.int ((2 : Nat) : Int)] := sqT_new
    have k0 := SqT.same y5 k0
    have k1 := SqT.same y5 k1
    have k2 := SqT.same y5 k2
    have k3 := SqT.same y5 k3
    have k4 := SqT.same y5 k4
    generalize upd G4 p5 (.tup [V.int 3, V.int 2]) = G5 at *
    refine ⟨z2, fun p6 np6 => ?_⟩
    have y6 := same_new (o := .tup [V.int 5, V.int 2]) np6
    have k6 : SqT K (upd G5 p6 (.tup [V.int 5, V.int 2])) p6 [V.int ((5 : Nat) : Int), V.int ((2 : Nat) : Int)] := sqT_new
    have k0 := SqT.same y6 k0
    have k1 := SqT.same y6 k1
    have k2 := SqT.same y6 k2
    have k3 := SqT.same y6 k3
    have k4 := SqT.same y6 k4
    have k5 := SqT.same y6 k5
    generalize upd G5 p6 (.tup [V.int 5, V.int 2]) = G6 at *
    refine ⟨z2, fun p7 np7 => ?_⟩
    have y7 := same_new (o := .tup [V.int 13, V.int 2]) np7
    have k7 : SqT K (upd G6 p7 (.tup [V.int 13, V.int 2])) p7 [V.int ((13 : Nat) : Int), V.int ((2 : Nat) : Int)] := sqT_new
    have k0 := SqT.same y7 k0
    have k1 := SqT.same y7 k1
    have k2 := SqT.same y7 k2
    have k3 := SqT.same y7 k3
    have k4 := SqT.same y7 k4
    have k5 := SqT.same y7 k5
    have k6 := SqT.same y7 k6
    generalize upd G6 p7 (.tup [V.int 13, V.int 2]) = G7 at *
    refine ⟨z2, fun p8 np8 => ?_⟩
    have y8 := same_new (o := .tup [V.int 991, V.int 997]) np8
    have k8 : SqT K (upd G7 p8 (.tup [V.int 991, V.int 997])) p8 [V.int ((991 : Nat) : Int), V.int ((997 : Nat) : Int)] := sqT_new
    have k0 := SqT.same y8 k0
    have k1 := SqT.same y8 k1
    have k2 := SqT.same y8 k2
    have k3 := SqT.same y8 k3
    have k4 := SqT.same y8 k4
    have k5 := SqT.same y8 k5
    have k6 := SqT.same y8 k6
    have k7 := SqT.same y8 k7
    generalize upd G7 p8 (.tup [V.int 991, V.int 997]) = G8 at *
    refine ⟨z2, fun p9 np9 => ?_⟩
    have y9 := same_new (o := .tup [V.int 31, V.int 2]) np9
    have k9 : SqT K (upd G8 p9 (.tup [V.int 31, V.int 2])) p9 [V.int ((31 : Nat) : Int), V.int ((2 : Nat) : Int)] := sqT_new
    have k0 := SqT.same y9 k0
    have k1 := SqT.same y9 k1
    have k2 := SqT.same y9 k2
    have k3 := SqT.same y9 k3
    have k4 := SqT.same y9 k4
    have k5 := SqT.same y9 k5
    have k6 := SqT.same y9 k6
    have k7 := SqT.same y9 k7
    have k8 := SqT.same y9 k8
    generalize upd G8 p9 (.tup [V.int 31, V.int 2]) = G9 at *
    refine ⟨z10, fun pt npt => ?_⟩
    have yt := same_new (o := .tup [V.ref p0, V.ref p1, V.ref p2, V.ref p3, V.ref p4, V.ref p5, V.ref p6, V.ref p7, V.ref p8, V.ref p9]) npt
    have kt : SqT K (upd G9 pt (.tup [V.ref p0, V.ref p1, V.ref p2, V.ref p3, V.ref p4, V.ref p5, V.ref p6, V.ref p7, V.ref p8, V.ref p9])) pt [V.ref p0, V.ref p1, V.ref p2, V.ref p3, V.ref p4, V.ref p5, V.ref p6, V.ref p7, V.ref p8, V.ref p9] := sqT_new
    have k0 := SqT.same yt k0
    have k1 := SqT.same yt k1
    have k2 := SqT.same yt k2
    have k3 := SqT.same yt k3
    have k4 := SqT.same yt k4
    have k5 := SqT.same yt k5
    have k6 := SqT.same yt k6
    have k7 := SqT.same yt k7
    have k8 := SqT.same yt k8
    have k9 := SqT.same yt k9
    generalize upd G9 pt (.tup [V.ref p0, V.ref p1, V.ref p2, V.ref p3, V.ref p4, V.ref p5, V.ref p6, V.ref p7, V.ref p8, V.ref p9]) = H1 at *
    have s01 : Same H H1 := ((((((((((y0).trans y1).trans y2).trans y3).trans y4).trans y5).trans y6).trans y7).trans y8).trans y9).trans yt
    refine ⟨D, C, pt, n, [V.ref p0, V.ref p1, V.ref p2, V.ref p3, V.ref p4, V.ref p5, V.ref p6, V.ref p7, V.ref p8, V.ref p9], rfl, da.same s01, by omega, kt, by show 0 < 10; omega, by show 10 ≤ 1000; omega, fun i x H2 hx o2 da2 => ?_⟩
    obtain ⟨r, pa, pb, rfl, hr0, hab⟩ : ∃ (r : Addr) (pa pb : Nat), x = V.ref r ∧ SqT K H1 r [V.int (pa : Int), V.int (pb : Int)] ∧ (pa, pb) ∈ prs := by
      match i, hx with
      | 0, hx => exact ⟨p0, 2, 3, (Option.some.inj hx).symm, k0, by decide⟩
      | 1, hx => exact ⟨p1, 3, 5, (Option.some.inj hx).symm, k1, by decide⟩
      | 2, hx => exact ⟨p2, 2, 5, (Option.some.inj hx).symm, k2, by decide⟩
      | 3, hx => exact ⟨p3, 7, 11, (Option.some.inj hx).symm, k3, by decide⟩
      | 4, hx => exact ⟨p4, 2, 997, (Option.some.inj hx).symm, k4, by decide⟩
      | 5, hx => exact ⟨p5, 3, 2, (Option.some.inj hx).symm, k5, by decide⟩
      | 6, hx => exact ⟨p6, 5, 2, (Option.some.inj hx).symm, k6, by decide⟩
      | 7, hx => exact ⟨p7, 13, 2, (Option.some.inj hx).symm, k7, by decide⟩
      | 8, hx => exact ⟨p8, 991, 997, (Option.some.inj hx).symm, k8, by decide⟩
      | 9, hx => exact ⟨p9, 31, 2, (Option.some.inj hx).symm, k9, by decide⟩
      | j + 10, hx => cases hx
    clear k0 k1 k2 k3 k4 k5 k6 k7 k8 k9 kt np0 np1 np2 np3 np4 np5 np6 np7 np8 np9 npt y0 y1 y2 y3 y4 y5 y6 y7 y8 y9 yt hx
    have hr2 := SqT.kp (o2.kp (da.same s01)) hr0
    obtain ⟨a2, b2, a9, b9, ab, apr, bpr, bin, anot, bnot⟩ := prs_ok _ hab
    dsimp only at a2 b2 a9 b9 ab apr bpr bin anot bnot
    have pra := pr_dec a2 (by omega) apr
    have prb := pr_dec b2 (by omega) bpr
    clear apr bpr
    refine ⟨r, _, rfl, hr2, rfl, _, _, rfl, _, [], rfl, rfl, ?_⟩
    refine ⟨_, rfl, _, rfl, D, C, n + 1, size, rfl, da2, by omega, by omega, by omega, fun za H3 za0 za1 o3 da3 => ⟨_, _, rfl, rfl, ?_⟩⟩
    refine ⟨_, rfl, D, C, n + 1 + 1, 2, rfl, da3, by omega, by omega, by omega, fun zb H4 zb0 zb1 o4 da4 => ?_⟩
    obtain ⟨ea, hea⟩ : ∃ ea : Nat, 1 + za = ea := ⟨(1 + za).toNat, by omega⟩
    dsimp only
    rw [hea]
    have ea0 : 0 < ea := by omega
    have ea1 : ea ≤ 1500 := by omega
    have pab : (pa : Int).natAbs < 2 ^ 10 := by omega
    refine ⟨_, rfl, _, rfl, pa, ea, 10, rfl, pab, by omega, by omega, ?_⟩
    have topb := pow_bits pab ea
    have top0 : 0 < (pa : Int) ^ ea := ipp _ (by omega)
    generalize (pa : Int) ^ ea = top at *
    obtain ⟨tn, rfl⟩ : ∃ tn : Nat, top = tn := ⟨top.toNat, by omega⟩
    have tbits : Builtin.Int.intBits (tn : Int) = tn.log2 + 1 := bits_nat (by omega)
    have tlog : tn.log2 < 15001 := by
      have h1 : tn < 2 ^ (10 * ea + 1) := by simpa using topb
      have : tn.log2 < 10 * ea + 1 := (Nat.log2_lt (by omega)).mpr h1
      omega
    refine ⟨_, rfl, _, rfl, _, rfl, _, _, rfl, rfl, _, _, rfl, rfl, wide_mul (a := 20) (b := 20) (by rw [tbits]; omega) (by omega) (by omega) (by omega) (by omega), ?_⟩
    refine fun dd ndd => ⟨upd_same, dq, rfl, by show 6 ≤ 15; omega, ?_⟩
    obtain ⟨y, hy, y0, y1⟩ := dq_get pb bin
    have sd := same_new (o := .dK (mergeK [] dq)) ndd
    have sd0 : Same H4 (upd (upd H4 dd (.dK [])) dd (.dK (mergeK [] dq))) := by rw [upd_upd]; exact sd
    have hdd : (upd (upd H4 dd (.dK [])) dd (.dK (mergeK [] dq))) dd = some (.dK (mergeK [] dq)) := upd_same
    generalize upd (upd H4 dd (.dK [])) dd (.dK (mergeK [] dq)) = H5 at *
    refine ⟨_, rfl, dd, V.int y, rfl, ?_, 1, y, rfl, ?_⟩
    · rw [← hy]; exact DGet.k (k := Sum.inl (pb : Int)) hdd
    have ymax : (if y > 1 then y else 1) = y := if_pos (by omega)
    dsimp only
    rw [ymax]
    have ylog : y.natAbs.log2 < 9000 := by
      have : y.natAbs.log2 < 20 := (Nat.log2_lt (by omega)).mpr (by omega)
      omega
    refine ⟨_, _, rfl, rfl, ⟨by omega, ylog⟩, _, _, rfl, rfl, ?_⟩
    obtain ⟨eb, heb⟩ : ∃ eb, zb + ((Builtin.Int.intBits (tn : Int) : Nat) - 1 : Int) * 1000 / y = eb := ⟨_, rfl⟩
    have q0 : 0 ≤ ((Builtin.Int.intBits (tn : Int) : Nat) - 1 : Int) * 1000 / y := Int.ediv_nonneg (by rw [tbits]; omega) (by omega)
    have q1 : ((Builtin.Int.intBits (tn : Int) : Nat) - 1 : Int) * 1000 / y ≤ ((Builtin.Int.intBits (tn : Int) : Nat) - 1 : Int) * 1000 := Int.ediv_le_self _ (by rw [tbits]; omega)
    have eb0 : 0 ≤ eb := by omega
    have eb1 : eb ≤ 2 ^ 30 := by
      rw [← heb]
      rw [tbits] at q1 ⊢
      omega
    dsimp only
    rw [heb]
    clear heb q0 q1
    -- the parts
    refine fun PD nPD => ⟨_, rfl, _, rfl, _, rfl, _, rfl, _, rfl, upd_same, kd [((pa : Int), (ea : Int)), ((pb : Int), -eb)], rfl, by show 2 ≤ 15; omega, ?_⟩
    have nod : ([((pa : Int), (ea : Int)), ((pb : Int), -eb)].map (·.1)).Nodup := by
      show [(pa : Int), (pb : Int)].Nodup
      simp; omega
    rw [dict_of nod, upd_upd]
    have s45 := sd0.trans (same_new (o := .dK (kd [((pa : Int), (ea : Int)), ((pb : Int), -eb)])) nPD)
    have da5 := da4.same sd0
    have oPD := (Ot.of s01).trans (o2.trans (o3.trans (o4.trans (Ot.of sd0))))
    have pdn := nPD
    have pdD : PD ≠ D := by rintro rfl; obtain ⟨_, _, _, h, _⟩ := da5.ex; rw [h] at nPD; cases nPD
    have pdC : PD ≠ C := by rintro rfl; obtain ⟨_, _, _, _, h, _⟩ := da5.ex; rw [h] at nPD; cases nPD
    have hPD : upd H5 PD (.dK (kd [((pa : Int), (ea : Int)), ((pb : Int), -eb)])) PD = some (.dK (kd [((pa : Int), (ea : Int)), ((pb : Int), -eb)])) := upd_same
    have dd6 := da4.same s45
    have oo := (Ot.of s01).trans (o2.trans (o3.trans (o4.trans (Ot.of s45))))
    generalize upd H5 PD (.dK (kd [((pa : Int), (ea : Int)), ((pb : Int), -eb)])) = H6 at *
    have pq0 : Pq [((pa : Int), (ea : Int)), ((pb : Int), -eb)] := by
      refine ⟨⟨nod, fun q hq => ?_⟩, by show 2 ≤ 20; omega, fun q hq => ?_, fun q hq => ?_⟩
      · rcases List.mem_cons.mp hq with e | hq
        · exact ⟨pa, by rw [e], pra, by omega⟩
        · rw [List.mem_singleton.mp hq]; exact ⟨pb, rfl, prb, by omega⟩
      · rcases List.mem_cons.mp hq with e | hq
        · rw [e]; show (pa : Int) ≤ 1000; omega
        · rw [List.mem_singleton.mp hq]; show (pb : Int) ≤ 1000; omega
      · rcases List.mem_cons.mp hq with e | hq
        · rw [e]; show (ea : Int).natAbs < _; omega
        · rw [List.mem_singleton.mp hq]; show (-eb).natAbs < _; omega
    have kin : ∀ r : Nat, r ∈ [17, 19, 23, 101] → ∀ q ∈ [((pa : Int), (ea : Int)), ((pb : Int), -eb)], q.1 ≠ (r : Int) := fun r hr q hq z => by
      rcases List.mem_cons.mp hq with e | hq
      · rw [e] at z
        have z' : pa = r := by have : (pa : Int) = r := z; omega
        exact anot (by rw [z']; exact hr)
      · rw [List.mem_singleton.mp hq] at z
        have z' : pb = r := by have : (pb : Int) = r := z; omega
        exact bnot (by rw [z']; exact hr)
    have lk0 : [((pa : Int), (ea : Int)), ((pb : Int), -eb)].length ≤ 2 := by show 2 ≤ 2; omega
    generalize [((pa : Int), (ea : Int)), ((pb : Int), -eb)] = L0 at *
    clear da5 hdd sd sd0 s45 s01 o2 o3 o4 da2 da3 da4 hr2 hr0 da nod tlog tbits hy ylog topb top0
    refine ⟨_, rfl, D, C, n + 1 + 1 + 1, 3, rfl, dd6, by omega, by omega, by omega, fun z6 H7 z60 z61 o7 da7 => ⟨rfl, _, rfl, ite2 (fun _ => ?_) (fun _ => ?_)⟩⟩
    · refine ⟨_, rfl, by show 4 ≤ sizeLine; rw [sizeLine_eq]; omega, fun pr npr => ?_⟩
      have sr := same_new (o := .tup (([17, 19, 23, 101] : List Nat).map (fun (r : Nat) => V.int (r : Int)))) npr
      refine ⟨D, C, pr, n + 1 + 1 + 1 + 1, ([17, 19, 23, 101] : List Nat).map (fun (r : Nat) => V.int (r : Int)), rfl, da7.same sr, by omega, sqT_new, by show 0 < 4; omega, by show 4 ≤ 1000; omega, fun i x H8 hx o8 da8 => ?_⟩
      obtain ⟨rr, hrr, rfl⟩ := map_at hx
      have rin := List.mem_of_getElem? hrr
      obtain ⟨rp, r9⟩ := rs_ok rr rin
      refine ⟨_, rfl, D, C, n + 1 + 1 + 1 + 1 + 1, 7, rfl, da8, by omega, by omega, by omega, fun zr H9 zr0 zr1 o9 da9 => ⟨_, _, rfl, rfl, ?_⟩⟩
      have hPD9 := o9 _ _ (o8 _ _ (sr _ _ (o7 _ _ hPD pdD pdC)) pdD pdC) pdD pdC
      have lk := pq0.few
      refine ⟨_, rfl, _, rfl, PD, _, rfl, DPut.k (k := Sum.inl (rr : Int)) hPD9 (by rw [kd_len, sizeLine_eq]; omega), ?_⟩
      have nl : L0.lookup (rr : Int) = none := (lookup_none_iff _ _).mpr (kin rr rin)
      rw [kd_put, ip_new nl]
      have pq : Pq (L0 ++ [((rr : Int), zr - 3)]) := by
        refine ⟨⟨?_, fun q hq => ?_⟩, by rw [List.length_append]; show L0.length + 1 ≤ 20; omega, fun q hq => ?_, fun q hq => ?_⟩
        · rw [List.map_append, List.nodup_append]
          refine ⟨pq0.ok.nd, by simp, fun a ha b hb z => ?_⟩
          obtain ⟨q, hq, rfl⟩ := List.mem_map.mp ha
          have e := List.mem_singleton.mp hb
          exact kin rr rin q hq (by rw [z, e])
        · rcases List.mem_append.mp hq with h | h
          · exact pq0.ok.pr q h
          · rw [List.mem_singleton.mp h]; exact ⟨rr, rfl, rp, by omega⟩
        · rcases List.mem_append.mp hq with h | h
          · exact pq0.key q h
          · rw [List.mem_singleton.mp h]; show (rr : Int) ≤ 1000; omega
        · rcases List.mem_append.mp hq with h | h
          · exact pq0.par q h
          · rw [List.mem_singleton.mp h]; show (zr - 3).natAbs < _; omega
      have hPD7 : upd H9 PD (.dK (kd (L0 ++ [((rr : Int), zr - 3)]))) PD = some (.dK (kd (L0 ++ [((rr : Int), zr - 3)]))) := upd_same
      have dd7 : DeckAt (upd H9 PD (.dK (kd (L0 ++ [((rr : Int), zr - 3)])))) D C (n + 1 + 1 + 1 + 1 + 1 + 1) := by
        obtain ⟨cs, m, k, hh1, hh2, r⟩ := da9.ex
        exact ⟨cs, m, k, by rw [upd_ne (Ne.symm pdD)]; exact hh1, by rw [upd_ne (Ne.symm pdC)]; exact hh2, r⟩
      have HPDn : H PD = none := by
        cases hh : H PD with
        | none => rfl
        | some o' =>
          have := pdn
          rw [oPD _ _ hh pdD pdC] at this; cases this
      have oo7 : Ot D C H (upd H9 PD (.dK (kd (L0 ++ [((rr : Int), zr - 3)])))) := fun b o e h1 h2 => by
        by_cases h : b = PD
        · subst h; rw [HPDn] at e; cases e
        · rw [upd_ne h]
          exact o9 _ _ (o8 _ _ (sr _ _ (o7 _ _ (oo _ _ e h1 h2) h1 h2)) h1 h2) h1 h2
      generalize upd H9 PD (.dK (kd (L0 ++ [((rr : Int), zr - 3)]))) = HX at *
      generalize L0 ++ [((rr : Int), zr - 3)] = Lp at *
      obtain ⟨n7, hn7⟩ : ∃ m, m = n + 1 + 1 + 1 + 1 + 1 + 1 := ⟨_, rfl⟩
      rw [← hn7] at dd7
      clear oo hPD hPD9 o8 o9 da8 da9 da7 sr dd6
      refine ⟨_, rfl, D, C, n7, 2, rfl, dd7, by omega, by omega, by omega, fun z7 HH z70 z71 o7 dd => ⟨rfl, _, rfl, ite2 (fun _ => ?_) (fun _ => ?_)⟩⟩
      · have oo := oo7.trans o7
        have hPD := o7 _ _ hPD7 pdD pdC
        obtain ⟨nB, hnB⟩ : ∃ m, m = n7 + 1 := ⟨_, rfl⟩
        rw [← hnB] at dd
        refine ⟨PD, _, hPD, trivial, fun od => ?_⟩
        refine ⟨_, rfl, PD, od, rfl, .inl ⟨_, upd_same, fun Dl nDl => ?_⟩⟩
        have nDP : Dl ≠ PD := fun z => by rw [z, upd_same] at nDl; cases nDl
        refine lc_keys (fun i H' => ∃ rs, H' Dl = some (.lst (rs.map V.ref)) ∧ TrP H' rs ((Lp.take i).map fun q => (q.1, -q.2)) ∧ Same (upd HH PD (.frz od (.dK (kd Lp)))) H') ?_ ?_ ?_ ?_
        · exact ⟨[], upd_same, .nil, same_new nDl⟩
        · rintro i H' ⟨rs, _, _, sm⟩; exact sm _ _ upd_same
        · rintro i k x H' hk ⟨rs, hDl, tr, sm⟩
          obtain ⟨c, hc, rfl, rfl⟩ := kd_at hk
          have cm := List.mem_of_getElem? hc
          refine ⟨rfl, ?_⟩
          refine ⟨_, rfl, _, rfl, _, rfl, PD, _, rfl, dgL (.inr ⟨od, sm _ _ upd_same⟩) pq.ok.nd cm, _, rfl, by show 2 ≤ sizeLine; rw [sizeLine_eq]; omega, fun p2 np2 => ?_⟩
          have s3 := same_new (o := .tup [V.int c.1, V.int (-c.2)]) np2
          have rl : rs.length = ((Lp.take i).map fun q => (q.1, -q.2)).length := Paired.length tr
          have rlen : rs.length ≤ 20 := by
            rw [rl, List.length_map, List.length_take]
            have := pq.few
            omega
          refine ⟨_, s3 _ _ hDl, by rw [List.length_map]; exact small1000 (by omega), rs ++ [p2], ?_, ?_, same_write nDl (sm.trans s3)⟩
          · rw [upd_same, List.map_append]; rfl
          · rw [take_snoc _ hc]
            have pD : p2 ≠ Dl := fun e => ne_of_none hDl np2 e.symm
            refine paired_snoc ?_ ?_
            · rw [upd_ne pD]; exact upd_same
            · exact (tr.same s3).kp (fun b o e n1 _ => by
                by_cases h : b = Dl
                · subst h; rw [s3 _ _ hDl] at e; exact absurd (Option.some.inj e).symm (n1 _)
                · rw [upd_ne h]; exact e)
        rintro HG ⟨rs, hDl, tr, sm⟩
        rw [kd_len, List.take_of_length_le (Nat.le_refl _)] at tr
        refine ⟨sm _ _ upd_same, ?_⟩
        have smH : Same HH (upd HG PD (.dK (kd Lp))) := fun b' o e => by
          by_cases h : b' = PD
          · subst h; rw [upd_same, ← hPD]; exact e
          · rw [upd_ne h]; exact sm _ _ (by rw [upd_ne h]; exact e)
        have hDl2 : (upd HG PD (.dK (kd Lp))) Dl = some (.lst (rs.map V.ref)) := by rw [upd_ne nDP]; exact hDl
        have tr2 : TrP (upd HG PD (.dK (kd Lp))) rs (Lp.map fun q => (q.1, -q.2)) := Paired.mapP tr fun r c h => by
          have : r ≠ PD := fun z => by rw [z, sm _ _ upd_same] at h; cases h
          rw [upd_ne this]; exact h
        generalize upd HG PD (.dK (kd Lp)) = HN at *
        refine ⟨Dl, rs, kd (Lp.map fun q => (q.1, -q.2)), rfl, .inl (.inl hDl2), pairsAt_kd tr2, fun PN nPN => ?_⟩
        rw [dict_of pq.neg.ok.nd]
        have sN := same_new (o := .dK (kd (Lp.map fun q => (q.1, -q.2)))) nPN
        have hPN : upd HN PN (.dK (kd (Lp.map fun q => (q.1, -q.2)))) PN = some (.dK (kd (Lp.map fun q => (q.1, -q.2)))) := upd_same
        have ddN := dd.same (smH.trans sN)
        have ooN := oo.trans (Ot.of (smH.trans sN))
        have pnD : PN ≠ D := by rintro rfl; obtain ⟨_, _, _, h, _⟩ := (dd.same smH).ex; rw [h] at nPN; cases nPN
        have pnC : PN ≠ C := by rintro rfl; obtain ⟨_, _, _, _, h, _⟩ := (dd.same smH).ex; rw [h] at nPN; cases nPN
        have pqN := pq.neg
        generalize upd HN PN (.dK (kd (Lp.map fun q => (q.1, -q.2)))) = HP at *
        clear sm tr hDl2 tr2 smH sN
        generalize (Lp.map fun q => (q.1, -q.2)) = LN at *
        refine ⟨_, rfl, _, rfl, D, C, nB, 2, rfl, ddN, by omega, by omega, by omega, fun z8 H8 z80 z81 o8 da8 => ⟨rfl, _, rfl, ite2 (fun _ => ?_) (fun _ => ?_)⟩⟩
        · refine ⟨D, C, nB + 1, 12, rfl, da8, by omega, by omega, by omega, fun zb H9 zb0 zb1 o9 da9 => ⟨_, _, rfl, rfl, ?_⟩⟩
          refine ⟨_, rfl, 1 + zb, PN, LN, rfl, by omega, by omega, o9 _ _ (o8 _ _ hPN pnD pnC) pnD pnC, Pq.ok pqN, by have := Pq.few pqN; omega, fun q hq => by have := Pq.par pqN q hq; omega, fun v d L' HF sF am st ll _ => ?_⟩
          exact q v d L' HF (Ot.trans (Ot.trans ooN o8) (o9.trans (Ot.of sF))) ((da9.mono (by omega)).same sF) am (Pq.ar pqN st (by omega) (by omega) ll)
        · refine ⟨D, C, nB + 1, 1000, rfl, da8, by omega, by omega, by omega, fun zb H9 zb0 zb1 o9 da9 => ⟨_, _, rfl, rfl, ?_⟩⟩
          refine ⟨_, rfl, 1 + zb, PN, LN, rfl, by omega, by omega, o9 _ _ (o8 _ _ hPN pnD pnC) pnD pnC, Pq.ok pqN, by have := Pq.few pqN; omega, fun q hq => by have := Pq.par pqN q hq; omega, fun v d L' HF sF am st ll _ => ?_⟩
          exact q v d L' HF (Ot.trans (Ot.trans ooN o8) (o9.trans (Ot.of sF))) ((da9.mono (by omega)).same sF) am (Pq.ar pqN st (by omega) (by omega) ll)
      · have oo := oo7.trans o7
        have hPD := o7 _ _ hPD7 pdD pdC
        obtain ⟨nB, hnB⟩ : ∃ m, m = n7 + 1 := ⟨_, rfl⟩
        rw [← hnB] at dd
        refine ⟨_, rfl, _, rfl, D, C, nB, 2, rfl, dd, by omega, by omega, by omega, fun z8 H8 z80 z81 o8 da8 => ⟨rfl, _, rfl, ite2 (fun _ => ?_) (fun _ => ?_)⟩⟩
        · refine ⟨D, C, nB + 1, 12, rfl, da8, by omega, by omega, by omega, fun zb H9 zb0 zb1 o9 da9 => ⟨_, _, rfl, rfl, ?_⟩⟩
          refine ⟨_, rfl, 1 + zb, PD, Lp, rfl, by omega, by omega, o9 _ _ (o8 _ _ hPD pdD pdC) pdD pdC, Pq.ok pq, by have := Pq.few pq; omega, fun q hq => by have := Pq.par pq q hq; omega, fun v d L' HF sF am st ll _ => ?_⟩
          exact q v d L' HF (Ot.trans (Ot.trans oo o8) (o9.trans (Ot.of sF))) ((da9.mono (by omega)).same sF) am (Pq.ar pq st (by omega) (by omega) ll)
        · refine ⟨D, C, nB + 1, 1000, rfl, da8, by omega, by omega, by omega, fun zb H9 zb0 zb1 o9 da9 => ⟨_, _, rfl, rfl, ?_⟩⟩
          refine ⟨_, rfl, 1 + zb, PD, Lp, rfl, by omega, by omega, o9 _ _ (o8 _ _ hPD pdD pdC) pdD pdC, Pq.ok pq, by have := Pq.few pq; omega, fun q hq => by have := Pq.par pq q hq; omega, fun v d L' HF sF am st ll _ => ?_⟩
          exact q v d L' HF (Ot.trans (Ot.trans oo o8) (o9.trans (Ot.of sF))) ((da9.mono (by omega)).same sF) am (Pq.ar pq st (by omega) (by omega) ll)
    · have dd7 := da7
      have oo7 := oo.trans o7
      have hPD7 := o7 _ _ hPD pdD pdC
      have pq := pq0
      generalize L0 = Lp at *
      obtain ⟨n7, hn7⟩ : ∃ m, m = n + 1 + 1 + 1 + 1 := ⟨_, rfl⟩
      rw [← hn7] at dd7
      clear oo hPD da7 dd6
      refine ⟨_, rfl, D, C, n7, 2, rfl, dd7, by omega, by omega, by omega, fun z7 HH z70 z71 o7 dd => ⟨rfl, _, rfl, ite2 (fun _ => ?_) (fun _ => ?_)⟩⟩
      · have oo := oo7.trans o7
        have hPD := o7 _ _ hPD7 pdD pdC
        obtain ⟨nB, hnB⟩ : ∃ m, m = n7 + 1 := ⟨_, rfl⟩
        rw [← hnB] at dd
        refine ⟨PD, _, hPD, trivial, fun od => ?_⟩
        refine ⟨_, rfl, PD, od, rfl, .inl ⟨_, upd_same, fun Dl nDl => ?_⟩⟩
        have nDP : Dl ≠ PD := fun z => by rw [z, upd_same] at nDl; cases nDl
        refine lc_keys (fun i H' => ∃ rs, H' Dl = some (.lst (rs.map V.ref)) ∧ TrP H' rs ((Lp.take i).map fun q => (q.1, -q.2)) ∧ Same (upd HH PD (.frz od (.dK (kd Lp)))) H') ?_ ?_ ?_ ?_
        · exact ⟨[], upd_same, .nil, same_new nDl⟩
        · rintro i H' ⟨rs, _, _, sm⟩; exact sm _ _ upd_same
        · rintro i k x H' hk ⟨rs, hDl, tr, sm⟩
          obtain ⟨c, hc, rfl, rfl⟩ := kd_at hk
          have cm := List.mem_of_getElem? hc
          refine ⟨rfl, ?_⟩
          refine ⟨_, rfl, _, rfl, _, rfl, PD, _, rfl, dgL (.inr ⟨od, sm _ _ upd_same⟩) pq.ok.nd cm, _, rfl, by show 2 ≤ sizeLine; rw [sizeLine_eq]; omega, fun p2 np2 => ?_⟩
          have s3 := same_new (o := .tup [V.int c.1, V.int (-c.2)]) np2
          have rl : rs.length = ((Lp.take i).map fun q => (q.1, -q.2)).length := Paired.length tr
          have rlen : rs.length ≤ 20 := by
            rw [rl, List.length_map, List.length_take]
            have := pq.few
            omega
          refine ⟨_, s3 _ _ hDl, by rw [List.length_map]; exact small1000 (by omega), rs ++ [p2], ?_, ?_, same_write nDl (sm.trans s3)⟩
          · rw [upd_same, List.map_append]; rfl
          · rw [take_snoc _ hc]
            have pD : p2 ≠ Dl := fun e => ne_of_none hDl np2 e.symm
            refine paired_snoc ?_ ?_
            · rw [upd_ne pD]; exact upd_same
            · exact (tr.same s3).kp (fun b o e n1 _ => by
                by_cases h : b = Dl
                · subst h; rw [s3 _ _ hDl] at e; exact absurd (Option.some.inj e).symm (n1 _)
                · rw [upd_ne h]; exact e)
        rintro HG ⟨rs, hDl, tr, sm⟩
        rw [kd_len, List.take_of_length_le (Nat.le_refl _)] at tr
        refine ⟨sm _ _ upd_same, ?_⟩
        have smH : Same HH (upd HG PD (.dK (kd Lp))) := fun b' o e => by
          by_cases h : b' = PD
          · subst h; rw [upd_same, ← hPD]; exact e
          · rw [upd_ne h]; exact sm _ _ (by rw [upd_ne h]; exact e)
        have hDl2 : (upd HG PD (.dK (kd Lp))) Dl = some (.lst (rs.map V.ref)) := by rw [upd_ne nDP]; exact hDl
        have tr2 : TrP (upd HG PD (.dK (kd Lp))) rs (Lp.map fun q => (q.1, -q.2)) := Paired.mapP tr fun r c h => by
          have : r ≠ PD := fun z => by rw [z, sm _ _ upd_same] at h; cases h
          rw [upd_ne this]; exact h
        generalize upd HG PD (.dK (kd Lp)) = HN at *
        refine ⟨Dl, rs, kd (Lp.map fun q => (q.1, -q.2)), rfl, .inl (.inl hDl2), pairsAt_kd tr2, fun PN nPN => ?_⟩
        rw [dict_of pq.neg.ok.nd]
        have sN := same_new (o := .dK (kd (Lp.map fun q => (q.1, -q.2)))) nPN
        have hPN : upd HN PN (.dK (kd (Lp.map fun q => (q.1, -q.2)))) PN = some (.dK (kd (Lp.map fun q => (q.1, -q.2)))) := upd_same
        have ddN := dd.same (smH.trans sN)
        have ooN := oo.trans (Ot.of (smH.trans sN))
        have pnD : PN ≠ D := by rintro rfl; obtain ⟨_, _, _, h, _⟩ := (dd.same smH).ex; rw [h] at nPN; cases nPN
        have pnC : PN ≠ C := by rintro rfl; obtain ⟨_, _, _, _, h, _⟩ := (dd.same smH).ex; rw [h] at nPN; cases nPN
        have pqN := pq.neg
        generalize upd HN PN (.dK (kd (Lp.map fun q => (q.1, -q.2)))) = HP at *
        clear sm tr hDl2 tr2 smH sN
        generalize (Lp.map fun q => (q.1, -q.2)) = LN at *
        refine ⟨_, rfl, _, rfl, D, C, nB, 2, rfl, ddN, by omega, by omega, by omega, fun z8 H8 z80 z81 o8 da8 => ⟨rfl, _, rfl, ite2 (fun _ => ?_) (fun _ => ?_)⟩⟩
        · refine ⟨D, C, nB + 1, 12, rfl, da8, by omega, by omega, by omega, fun zb H9 zb0 zb1 o9 da9 => ⟨_, _, rfl, rfl, ?_⟩⟩
          refine ⟨_, rfl, 1 + zb, PN, LN, rfl, by omega, by omega, o9 _ _ (o8 _ _ hPN pnD pnC) pnD pnC, Pq.ok pqN, by have := Pq.few pqN; omega, fun q hq => by have := Pq.par pqN q hq; omega, fun v d L' HF sF am st ll _ => ?_⟩
          exact q v d L' HF (Ot.trans (Ot.trans ooN o8) (o9.trans (Ot.of sF))) ((da9.mono (by omega)).same sF) am (Pq.ar pqN st (by omega) (by omega) ll)
        · refine ⟨D, C, nB + 1, 1000, rfl, da8, by omega, by omega, by omega, fun zb H9 zb0 zb1 o9 da9 => ⟨_, _, rfl, rfl, ?_⟩⟩
          refine ⟨_, rfl, 1 + zb, PN, LN, rfl, by omega, by omega, o9 _ _ (o8 _ _ hPN pnD pnC) pnD pnC, Pq.ok pqN, by have := Pq.few pqN; omega, fun q hq => by have := Pq.par pqN q hq; omega, fun v d L' HF sF am st ll _ => ?_⟩
          exact q v d L' HF (Ot.trans (Ot.trans ooN o8) (o9.trans (Ot.of sF))) ((da9.mono (by omega)).same sF) am (Pq.ar pqN st (by omega) (by omega) ll)
      · have oo := oo7.trans o7
        have hPD := o7 _ _ hPD7 pdD pdC
        obtain ⟨nB, hnB⟩ : ∃ m, m = n7 + 1 := ⟨_, rfl⟩
        rw [← hnB] at dd
        refine ⟨_, rfl, _, rfl, D, C, nB, 2, rfl, dd, by omega, by omega, by omega, fun z8 H8 z80 z81 o8 da8 => ⟨rfl, _, rfl, ite2 (fun _ => ?_) (fun _ => ?_)⟩⟩
        · refine ⟨D, C, nB + 1, 12, rfl, da8, by omega, by omega, by omega, fun zb H9 zb0 zb1 o9 da9 => ⟨_, _, rfl, rfl, ?_⟩⟩
          refine ⟨_, rfl, 1 + zb, PD, Lp, rfl, by omega, by omega, o9 _ _ (o8 _ _ hPD pdD pdC) pdD pdC, Pq.ok pq, by have := Pq.few pq; omega, fun q hq => by have := Pq.par pq q hq; omega, fun v d L' HF sF am st ll _ => ?_⟩
          exact q v d L' HF (Ot.trans (Ot.trans oo o8) (o9.trans (Ot.of sF))) ((da9.mono (by omega)).same sF) am (Pq.ar pq st (by omega) (by omega) ll)
        · refine ⟨D, C, nB + 1, 1000, rfl, da8, by omega, by omega, by omega, fun zb H9 zb0 zb1 o9 da9 => ⟨_, _, rfl, rfl, ?_⟩⟩
          refine ⟨_, rfl, 1 + zb, PD, Lp, rfl, by omega, by omega, o9 _ _ (o8 _ _ hPD pdD pdC) pdD pdC, Pq.ok pq, by have := Pq.few pq; omega, fun q hq => by have := Pq.par pq q hq; omega, fun v d L' HF sF am st ll _ => ?_⟩
          exact q v d L' HF (Ot.trans (Ot.trans oo o8) (o9.trans (Ot.of sF))) ((da9.mono (by omega)).same sF) am (Pq.ar pq st (by omega) (by omega) ll)
end
end K07

namespace K07
open PySem PySem.Spec PyProof.Rows L2 Ly Am
def toldL : List (Int × Int) := [(2, 4), (3, 6), (5, 3), (7, 1), (13, -2), (23, 2), (29, 1), (31, -2), (37, -2), (43, -4), (47, 1), (59, 1), (61, 1), (71, -4), (73, 1), (97, 1), (103, 1)]
theorem told_pr : ∀ k ∈ toldL.map (fun q => q.1.toNat), Pr k ∧ k < 1000 := by
  intro k hk
  have h : ∀ k ∈ toldL.map (fun q => q.1.toNat), 2 ≤ k ∧ k < 1000 ∧ (List.range 32).all (fun d => decide (d < 2) || decide (k < d * d) || decide (k % d ≠ 0)) = true := by decide
  obtain ⟨h1, h2, h3⟩ := h k hk
  exact ⟨pr_dec h1 (by omega) h3, h2⟩
theorem told_pq : Pq toldL := by
  have e : ∀ q ∈ toldL, q.1 = ((q.1.toNat : Nat) : Int) ∧ q.1 ≤ 1000 ∧ q.2.natAbs < 2 ^ 40 := by decide
  refine ⟨⟨by decide, fun q hq => ?_⟩, by decide, fun q hq => (e q hq).2.1, fun q hq => (e q hq).2.2⟩
  obtain ⟨h1, h2⟩ := told_pr q.1.toNat (List.mem_map.mpr ⟨q, hq, rfl⟩)
  exact ⟨q.1.toNat, (e q hq).1, h1, by omega⟩
theorem told_put (v : Int) : cost (ip toldL ((2 : Nat) : Int) v) = v.natAbs + 33 := by
  have e : ip toldL ((2 : Nat) : Int) v = (2, v) :: toldL.tail := rfl
  rw [e]; rfl
theorem neg_put (v : Int) : cost (ip (toldL.map fun q => (q.1, -q.2)) ((2 : Nat) : Int) v) = v.natAbs + 33 := by
  have e : ip (toldL.map fun q => (q.1, -q.2)) ((2 : Nat) : Int) v = (2, v) :: (toldL.map fun q => (q.1, -q.2)).tail := rfl
  rw [e]; rfl
theorem neg_cost (L : List (Int × Int)) : cost (L.map fun q => (q.1, -q.2)) = cost L := by
  unfold cost
  rw [List.map_map]
  congr 1
  apply List.map_congr_left
  intro q _
  show (-q.2).natAbs = _
  rw [Int.natAbs_neg]
theorem ip_vals {L : List (Int × Int)} (nd : (L.map (·.1)).Nodup) {k v : Int} {q : Int × Int} (h : q ∈ ip L k v) : q = (k, v) ∨ q ∈ L := by
  have h1 := ig_mem (ip_nodup k v nd) h
  rw [ig_ip] at h1
  by_cases c : q.1 = k
  · rw [if_pos c] at h1
    exact .inl (Prod.ext c h1.symm)
  · rw [if_neg c] at h1
    rcases ip_keys (List.mem_map.mpr ⟨q, h, rfl⟩) with e | e
    · exact absurd e c
    · obtain ⟨x, hx, e⟩ := List.mem_map.mp e
      have h2 := ig_mem nd hx
      rw [e] at h2
      have : x = q := Prod.ext e (by rw [← h1, h2])
      rw [this] at hx; exact .inr hx
theorem Pq.put {L : List (Int × Int)} (h : Pq L) {k : Nat} {v : Int} (hk : Pr k) (kl : k ≤ 1000) (hv : v.natAbs < 2 ^ 40) (hl : L.length ≤ 19) : Pq (ip L k v) := by
  refine ⟨h.ok.put v hk (by omega), by have := ip_len L k v; omega, fun q hq => ?_, fun q hq => ?_⟩
  · rcases ip_vals h.ok.nd hq with e | e
    · rw [e]; show (k : Int) ≤ 1000; omega
    · exact h.key q e
  · rcases ip_vals h.ok.nd hq with e | e
    · rw [e]; exact hv
    · exact h.par q e
section
variable {P : Program} {w : World} {K : PySem.W.Frag} {mg : Str → Option Value} {base : Heap}
def spToldD (K : PySem.W.Frag) : Sp := fun vs H Q _ => ∃ (D C : Addr) (n : Nat) (twos most : Int), vs = [.ref D, .int twos, .int most] ∧ DeckAt H D C n ∧ n < 2 ^ 28 ∧ -10 ≤ twos ∧ twos ≤ 10 ∧ 10 ≤ most ∧ most ≤ 1000 ∧
  ∀ v d L H', Ot D C H H' → DeckAt H' D C (n + 20) → AmtAt K H' v d L → Ar d L → d ≤ most → cost L ≤ 60 → Q v H'


theorem ca_L_told (T : Tx K mg) : Ca P w K mg base 3 "_law_told" s_L_told ["_law_deck_here", "_law_twos", "_law_most"] (spToldD K) := by
  have C_L_draw := ca_L_draw (P := P) (w := w) (base := base) T
  have C_L_pick := ca_L_pick (P := P) (w := w) (base := base) T
  have C_L_formed := ca_L_formed (P := P) (w := w) (base := base) T
  refine Ca.of (fd_L_told T) sc_L_told ?_ ?_
  · rintro vs H Q E ⟨D, C, n, twos, most, rfl, _⟩; rfl
  · rintro f cdv A out s H vs Q E hr ⟨D, C, n, twos, most, rfl, da, hn, tw0, tw1, m0, m1, q⟩
    refine ⟨_, (pss_cons (ps_set (i := 3) sc_L_told.nd rfl (.inr rfl) (pe_disp17 (.cons pe_int pe_int (.cons pe_int pe_int (.cons pe_int pe_int (.cons pe_int pe_int (.cons pe_int (pe_un un_neg pe_int) (.cons pe_int pe_int (.cons pe_int pe_int (.cons pe_int (pe_un un_neg pe_int) (.cons pe_int (pe_un un_neg pe_int) (.cons pe_int (pe_un un_neg pe_int) (.cons pe_int pe_int (.cons pe_int pe_int (.cons pe_int pe_int (.cons pe_int (pe_un un_neg pe_int) (.cons pe_int pe_int (.cons pe_int pe_int (.cons pe_int pe_int .nil))))))))))))))))) (by rfl) (by rfl) (by rfl)))
 (pss_cons (ps_if (pt_cmpR op_eq (pe_ca C_L_draw hr (pa_cons (pv 0) (pa_cons pe_int pa_nil))) pe_int (nomark _))
 (pss_one (ps_set (i := 3) sc_L_told.nd rfl (.inr rfl) (pe_callTy (call_dictP rfl) (by rfl) T.f_dict (by decide +kernel) (pa_cons (pe_lock (pe_lc (own := [("_law_p", 4)]) rfl sc_L_told.nd (pi_keys (pv 3)) (blkOk_by (own := [("_law_p", 4)]) (N := n_L_told) (sc := (defScope s_L_told)) (by decide +kernel)) (fun _ _ _ _ _ => (pg_name (i := 4) sc_L_told.nd rfl (Or.inl rfl) (Or.inr rfl))) (fun _ _ _ _ _ => pts_nil) (fun _ _ _ _ _ => (pe_tup (pa_cons (pv 4) (pa_cons (pe_un un_neg (pe_dget (hu_of hr) (pv 3) (pv 4) (fun _ _ => rfl))) pa_nil)))))) pa_nil))))
 pss_nil)
 (pss_cons (ps_dput (hu_of hr) (pv 3) pe_int (pe_op op_add (pe_dget (hu_of hr) (pv 3) pe_int (fun _ _ => rfl)) (pv 1)) rfl)
 (pss_one (ps_ret (pe_ca C_L_formed hr (pa_cons (pe_ca C_L_pick hr (pa_cons (pv 0) (pa_cons (pe_tup (pa_cons pe_int (pa_cons pe_int (pa_cons pe_int (pa_cons pe_int (pa_cons pe_int (pa_cons (pe_op op_add pe_int (pe_ca C_L_draw hr (pa_cons (pv 0) (pa_cons (pv 2) pa_nil)))) pa_nil))))))) pa_nil))) (pa_cons (pv 3) pa_nil)))))))), ?_⟩
    refine fun PD nPD => ?_
    have hP0 : upd H PD (.dK []) PD = some (.dK (kd [])) := upd_same
    have sm0 : Same H (upd H PD (.dK [])) := same_new nPD
    generalize upd H PD (.dK []) = G0 at *
    refine ⟨_, Sum.inl 2, hP0, rfl, by rw [kd_len]; decide, ?_⟩
    have hP1 : upd G0 PD (.dK (putK (kd []) (Sum.inl 2) (V.int 4))) PD = some (.dK (kd [(2, 4)])) := upd_same
    have sm1 : Same H (upd G0 PD (.dK (putK (kd []) (Sum.inl 2) (V.int 4)))) := same_write nPD sm0
    generalize upd G0 PD (.dK (putK (kd []) (Sum.inl 2) (V.int 4))) = G1 at *
    refine ⟨_, Sum.inl 3, hP1, rfl, by rw [kd_len]; decide, ?_⟩
    have hP2 : upd G1 PD (.dK (putK (kd [(2, 4)]) (Sum.inl 3) (V.int 6))) PD = some (.dK (kd [(2, 4), (3, 6)])) := upd_same
    have sm2 : Same H (upd G1 PD (.dK (putK (kd [(2, 4)]) (Sum.inl 3) (V.int 6)))) := same_write nPD sm1
    generalize upd G1 PD (.dK (putK (kd [(2, 4)]) (Sum.inl 3) (V.int 6))) = G2 at *
    refine ⟨_, Sum.inl 5, hP2, rfl, by rw [kd_len]; decide, ?_⟩
    have hP3 : upd G2 PD (.dK (putK (kd [(2, 4), (3, 6)]) (Sum.inl 5) (V.int 3))) PD = some (.dK (kd [(2, 4), (3, 6), (5, 3)])) := upd_same
    have sm3 : Same H (upd G2 PD (.dK (putK (kd [(2, 4), (3, 6)]) (Sum.inl 5) (V.int 3)))) := same_write nPD sm2
    generalize upd G2 PD (.dK (putK (kd [(2, 4), (3, 6)]) (Sum.inl 5) (V.int 3))) = G3 at *
    refine ⟨_, Sum.inl 7, hP3, rfl, by rw [kd_len]; decide, ?_⟩
    have hP4 : upd G3 PD (.dK (putK (kd [(2, 4), (3, 6), (5, 3)]) (Sum.inl 7) (V.int 1))) PD = some (.dK (kd [(2, 4), (3, 6), (5, 3), (7, 1)])) := upd_same
    have sm4 : Same H (upd G3 PD (.dK (putK (kd [(2, 4), (3, 6), (5, 3)]) (Sum.inl 7) (V.int 1)))) := same_write nPD sm3
    generalize upd G3 PD (.dK (putK (kd [(2, 4), (3, 6), (5, 3)]) (Sum.inl 7) (V.int 1))) = G4 at *
    refine ⟨_, rfl, _, Sum.inl 13, hP4, rfl, by rw [kd_len]; decide, ?_⟩
    have hP5 : upd G4 PD (.dK (putK (kd [(2, 4), (3, 6), (5, 3), (7, 1)]) (Sum.inl 13) (V.int (-2)))) PD = some (.dK (kd [(2, 4), (3, 6), (5, 3), (7, 1), (13, -2)])) := upd_same
    have sm5 : Same H (upd G4 PD (.dK (putK (kd [(2, 4), (3, 6), (5, 3), (7, 1)]) (Sum.inl 13) (V.int (-2))))) := same_write nPD sm4
    generalize upd G4 PD (.dK (putK (kd [(2, 4), (3, 6), (5, 3), (7, 1)]) (Sum.inl 13) (V.int (-2)))) = G5 at *
    refine ⟨_, Sum.inl 23, hP5, rfl, by rw [kd_len]; decide, ?_⟩
    have hP6 : upd G5 PD (.dK (putK (kd [(2, 4), (3, 6), (5, 3), (7, 1), (13, -2)]) (Sum.inl 23) (V.int 2))) PD = some (.dK (kd [(2, 4), (3, 6), (5, 3), (7, 1), (13, -2), (23, 2)])) := upd_same
    have sm6 : Same H (upd G5 PD (.dK (putK (kd [(2, 4), (3, 6), (5, 3), (7, 1), (13, -2)]) (Sum.inl 23) (V.int 2)))) := same_write nPD sm5
    generalize upd G5 PD (.dK (putK (kd [(2, 4), (3, 6), (5, 3), (7, 1), (13, -2)]) (Sum.inl 23) (V.int 2))) = G6 at *
    refine ⟨_, Sum.inl 29, hP6, rfl, by rw [kd_len]; decide, ?_⟩
    have hP7 : upd G6 PD (.dK (putK (kd [(2, 4), (3, 6), (5, 3), (7, 1), (13, -2), (23, 2)]) (Sum.inl 29) (V.int 1))) PD = some (.dK (kd [(2, 4), (3, 6), (5, 3), (7, 1), (13, -2), (23, 2), (29, 1)])) := upd_same
    have sm7 : Same H (upd G6 PD (.dK (putK (kd [(2, 4), (3, 6), (5, 3), (7, 1), (13, -2), (23, 2)]) (Sum.inl 29) (V.int 1)))) := same_write nPD sm6
    generalize upd G6 PD (.dK (putK (kd [(2, 4), (3, 6), (5, 3), (7, 1), (13, -2), (23, 2)]) (Sum.inl 29) (V.int 1))) = G7 at *
    refine ⟨_, rfl, _, Sum.inl 31, hP7, rfl, by rw [kd_len]; decide, ?_⟩
    have hP8 : upd G7 PD (.dK (putK (kd [(2, 4), (3, 6), (5, 3), (7, 1), (13, -2), (23, 2), (29, 1)]) (Sum.inl 31) (V.int (-2)))) PD = some (.dK (kd [(2, 4), (3, 6), (5, 3), (7, 1), (13, -2), (23, 2), (29, 1), (31, -2)])) := upd_same
    have sm8 : Same H (upd G7 PD (.dK (putK (kd [(2, 4), (3, 6), (5, 3), (7, 1), (13, -2), (23, 2), (29, 1)]) (Sum.inl 31) (V.int (-2))))) := same_write nPD sm7
    generalize upd G7 PD (.dK (putK (kd [(2, 4), (3, 6), (5, 3), (7, 1), (13, -2), (23, 2), (29, 1)]) (Sum.inl 31) (V.int (-2)))) = G8 at *
    refine ⟨_, rfl, _, Sum.inl 37, hP8, rfl, by rw [kd_len]; decide, ?_⟩
    have hP9 : upd G8 PD (.dK (putK (kd [(2, 4), (3, 6), (5, 3), (7, 1), (13, -2), (23, 2), (29, 1), (31, -2)]) (Sum.inl 37) (V.int (-2)))) PD = some (.dK (kd [(2, 4), (3, 6), (5, 3), (7, 1), (13, -2), (23, 2), (29, 1), (31, -2), (37, -2)])) := upd_same
    have sm9 : Same H (upd G8 PD (.dK (putK (kd [(2, 4), (3, 6), (5, 3), (7, 1), (13, -2), (23, 2), (29, 1), (31, -2)]) (Sum.inl 37) (V.int (-2))))) := same_write nPD sm8
    generalize upd G8 PD (.dK (putK (kd [(2, 4), (3, 6), (5, 3), (7, 1), (13, -2), (23, 2), (29, 1), (31, -2)]) (Sum.inl 37) (V.int (-2)))) = G9 at *
    refine ⟨_, rfl, _, Sum.inl 43, hP9, rfl, by rw [kd_len]; decide, ?_⟩
    have hP10 : upd G9 PD (.dK (putK (kd [(2, 4), (3, 6), (5, 3), (7, 1), (13, -2), (23, 2), (29, 1), (31, -2), (37, -2)]) (Sum.inl 43) (V.int (-4)))) PD = some (.dK (kd [(2, 4), (3, 6), (5, 3), (7, 1), (13, -2), (23, 2), (29, 1), (31, -2), (37, -2), (43, -4)])) := upd_same
    have sm10 : Same H (upd G9 PD (.dK (putK (kd [(2, 4), (3, 6), (5, 3), (7, 1), (13, -2), (23, 2), (29, 1), (31, -2), (37, -2)]) (Sum.inl 43) (V.int (-4))))) := same_write nPD sm9
    generalize upd G9 PD (.dK (putK (kd [(2, 4), (3, 6), (5, 3), (7, 1), (13, -2), (23, 2), (29, 1), (31, -2), (37, -2)]) (Sum.inl 43) (V.int (-4)))) = G10 at *
    refine ⟨_, Sum.inl 47, hP10, rfl, by rw [kd_len]; decide, ?_⟩
    have hP11 : upd G10 PD (.dK (putK (kd [(2, 4), (3, 6), (5, 3), (7, 1), (13, -2), (23, 2), (29, 1), (31, -2), (37, -2), (43, -4)]) (Sum.inl 47) (V.int 1))) PD = some (.dK (kd [(2, 4), (3, 6), (5, 3), (7, 1), (13, -2), (23, 2), (29, 1), (31, -2), (37, -2), (43, -4), (47, 1)])) := upd_same
    have sm11 : Same H (upd G10 PD (.dK (putK (kd [(2, 4), (3, 6), (5, 3), (7, 1), (13, -2), (23, 2), (29, 1), (31, -2), (37, -2), (43, -4)]) (Sum.inl 47) (V.int 1)))) := same_write nPD sm10
    generalize upd G10 PD (.dK (putK (kd [(2, 4), (3, 6), (5, 3), (7, 1), (13, -2), (23, 2), (29, 1), (31, -2), (37, -2), (43, -4)]) (Sum.inl 47) (V.int 1))) = G11 at *
    refine ⟨_, Sum.inl 59, hP11, rfl, by rw [kd_len]; decide, ?_⟩
    have hP12 : upd G11 PD (.dK (putK (kd [(2, 4), (3, 6), (5, 3), (7, 1), (13, -2), (23, 2), (29, 1), (31, -2), (37, -2), (43, -4), (47, 1)]) (Sum.inl 59) (V.int 1))) PD = some (.dK (kd [(2, 4), (3, 6), (5, 3), (7, 1), (13, -2), (23, 2), (29, 1), (31, -2), (37, -2), (43, -4), (47, 1), (59, 1)])) := upd_same
    have sm12 : Same H (upd G11 PD (.dK (putK (kd [(2, 4), (3, 6), (5, 3), (7, 1), (13, -2), (23, 2), (29, 1), (31, -2), (37, -2), (43, -4), (47, 1)]) (Sum.inl 59) (V.int 1)))) := same_write nPD sm11
    generalize upd G11 PD (.dK (putK (kd [(2, 4), (3, 6), (5, 3), (7, 1), (13, -2), (23, 2), (29, 1), (31, -2), (37, -2), (43, -4), (47, 1)]) (Sum.inl 59) (V.int 1))) = G12 at *
    refine ⟨_, Sum.inl 61, hP12, rfl, by rw [kd_len]; decide, ?_⟩
    have hP13 : upd G12 PD (.dK (putK (kd [(2, 4), (3, 6), (5, 3), (7, 1), (13, -2), (23, 2), (29, 1), (31, -2), (37, -2), (43, -4), (47, 1), (59, 1)]) (Sum.inl 61) (V.int 1))) PD = some (.dK (kd [(2, 4), (3, 6), (5, 3), (7, 1), (13, -2), (23, 2), (29, 1), (31, -2), (37, -2), (43, -4), (47, 1), (59, 1), (61, 1)])) := upd_same
    have sm13 : Same H (upd G12 PD (.dK (putK (kd [(2, 4), (3, 6), (5, 3), (7, 1), (13, -2), (23, 2), (29, 1), (31, -2), (37, -2), (43, -4), (47, 1), (59, 1)]) (Sum.inl 61) (V.int 1)))) := same_write nPD sm12
    generalize upd G12 PD (.dK (putK (kd [(2, 4), (3, 6), (5, 3), (7, 1), (13, -2), (23, 2), (29, 1), (31, -2), (37, -2), (43, -4), (47, 1), (59, 1)]) (Sum.inl 61) (V.int 1))) = G13 at *
    refine ⟨_, rfl, _, Sum.inl 71, hP13, rfl, by rw [kd_len]; decide, ?_⟩
    have hP14 : upd G13 PD (.dK (putK (kd [(2, 4), (3, 6), (5, 3), (7, 1), (13, -2), (23, 2), (29, 1), (31, -2), (37, -2), (43, -4), (47, 1), (59, 1), (61, 1)]) (Sum.inl 71) (V.int (-4)))) PD = some (.dK (kd [(2, 4), (3, 6), (5, 3), (7, 1), (13, -2), (23, 2), (29, 1), (31, -2), (37, -2), (43, -4), (47, 1), (59, 1), (61, 1), (71, -4)])) := upd_same
    have sm14 : Same H (upd G13 PD (.dK (putK (kd [(2, 4), (3, 6), (5, 3), (7, 1), (13, -2), (23, 2), (29, 1), (31, -2), (37, -2), (43, -4), (47, 1), (59, 1), (61, 1)]) (Sum.inl 71) (V.int (-4))))) := same_write nPD sm13
    generalize upd G13 PD (.dK (putK (kd [(2, 4), (3, 6), (5, 3), (7, 1), (13, -2), (23, 2), (29, 1), (31, -2), (37, -2), (43, -4), (47, 1), (59, 1), (61, 1)]) (Sum.inl 71) (V.int (-4)))) = G14 at *
    refine ⟨_, Sum.inl 73, hP14, rfl, by rw [kd_len]; decide, ?_⟩
    have hP15 : upd G14 PD (.dK (putK (kd [(2, 4), (3, 6), (5, 3), (7, 1), (13, -2), (23, 2), (29, 1), (31, -2), (37, -2), (43, -4), (47, 1), (59, 1), (61, 1), (71, -4)]) (Sum.inl 73) (V.int 1))) PD = some (.dK (kd [(2, 4), (3, 6), (5, 3), (7, 1), (13, -2), (23, 2), (29, 1), (31, -2), (37, -2), (43, -4), (47, 1), (59, 1), (61, 1), (71, -4), (73, 1)])) := upd_same
    have sm15 : Same H (upd G14 PD (.dK (putK (kd [(2, 4), (3, 6), (5, 3), (7, 1), (13, -2), (23, 2), (29, 1), (31, -2), (37, -2), (43, -4), (47, 1), (59, 1), (61, 1), (71, -4)]) (Sum.inl 73) (V.int 1)))) := same_write nPD sm14
    generalize upd G14 PD (.dK (putK (kd [(2, 4), (3, 6), (5, 3), (7, 1), (13, -2), (23, 2), (29, 1), (31, -2), (37, -2), (43, -4), (47, 1), (59, 1), (61, 1), (71, -4)]) (Sum.inl 73) (V.int 1))) = G15 at *
    refine ⟨_, Sum.inl 97, hP15, rfl, by rw [kd_len]; decide, ?_⟩
    have hP16 : upd G15 PD (.dK (putK (kd [(2, 4), (3, 6), (5, 3), (7, 1), (13, -2), (23, 2), (29, 1), (31, -2), (37, -2), (43, -4), (47, 1), (59, 1), (61, 1), (71, -4), (73, 1)]) (Sum.inl 97) (V.int 1))) PD = some (.dK (kd [(2, 4), (3, 6), (5, 3), (7, 1), (13, -2), (23, 2), (29, 1), (31, -2), (37, -2), (43, -4), (47, 1), (59, 1), (61, 1), (71, -4), (73, 1), (97, 1)])) := upd_same
    have sm16 : Same H (upd G15 PD (.dK (putK (kd [(2, 4), (3, 6), (5, 3), (7, 1), (13, -2), (23, 2), (29, 1), (31, -2), (37, -2), (43, -4), (47, 1), (59, 1), (61, 1), (71, -4), (73, 1)]) (Sum.inl 97) (V.int 1)))) := same_write nPD sm15
    generalize upd G15 PD (.dK (putK (kd [(2, 4), (3, 6), (5, 3), (7, 1), (13, -2), (23, 2), (29, 1), (31, -2), (37, -2), (43, -4), (47, 1), (59, 1), (61, 1), (71, -4), (73, 1)]) (Sum.inl 97) (V.int 1))) = G16 at *
    refine ⟨_, Sum.inl 103, hP16, rfl, by rw [kd_len]; decide, ?_⟩
    have hP17 : upd G16 PD (.dK (putK (kd [(2, 4), (3, 6), (5, 3), (7, 1), (13, -2), (23, 2), (29, 1), (31, -2), (37, -2), (43, -4), (47, 1), (59, 1), (61, 1), (71, -4), (73, 1), (97, 1)]) (Sum.inl 103) (V.int 1))) PD = some (.dK (kd [(2, 4), (3, 6), (5, 3), (7, 1), (13, -2), (23, 2), (29, 1), (31, -2), (37, -2), (43, -4), (47, 1), (59, 1), (61, 1), (71, -4), (73, 1), (97, 1), (103, 1)])) := upd_same
    have sm17 : Same H (upd G16 PD (.dK (putK (kd [(2, 4), (3, 6), (5, 3), (7, 1), (13, -2), (23, 2), (29, 1), (31, -2), (37, -2), (43, -4), (47, 1), (59, 1), (61, 1), (71, -4), (73, 1), (97, 1)]) (Sum.inl 103) (V.int 1)))) := same_write nPD sm16
    generalize upd G16 PD (.dK (putK (kd [(2, 4), (3, 6), (5, 3), (7, 1), (13, -2), (23, 2), (29, 1), (31, -2), (37, -2), (43, -4), (47, 1), (59, 1), (61, 1), (71, -4), (73, 1), (97, 1)]) (Sum.inl 103) (V.int 1))) = G17 at *
    have hPD0 : G17 PD = some (.dK (kd toldL)) := hP17
    have da0 := da.same sm0
    have pdD : PD ≠ D := by rintro rfl; obtain ⟨_, _, _, h, _⟩ := da.ex; rw [h] at nPD; cases nPD
    have pdC : PD ≠ C := by rintro rfl; obtain ⟨_, _, _, _, h, _⟩ := da.ex; rw [h] at nPD; cases nPD
    have nD : ∀ o, H PD = some o → False := fun o hh => by rw [nPD] at hh; cases hh
    have pq := told_pq
    have gD : ((2 : Int), (4 : Int)) ∈ toldL := by decide
    have lD : toldL.length ≤ 19 := by decide
    have cD : cost (ip toldL ((2 : Nat) : Int) (4 + twos)) ≤ 60 := by rw [told_put]; omega
    refine ⟨_, rfl, D, C, n, 2, rfl, da.same sm17, by omega, by omega, by omega, fun z7 HH z70 z71 o7 dd => ⟨rfl, _, rfl, ite2 (fun _ => ?_) (fun _ => ?_)⟩⟩
    · have oo := (Ot.of sm17).trans o7
      have hPD := o7 _ _ hPD0 pdD pdC
      refine ⟨PD, _, hPD, trivial, fun od => ?_⟩
      refine ⟨_, rfl, PD, od, rfl, .inl ⟨_, upd_same, fun Dl nDl => ?_⟩⟩
      have nDP : Dl ≠ PD := fun z => by rw [z, upd_same] at nDl; cases nDl
      refine lc_keys (fun i H' => ∃ rs, H' Dl = some (.lst (rs.map V.ref)) ∧ TrP H' rs ((toldL.take i).map fun q => (q.1, -q.2)) ∧ Same (upd HH PD (.frz od (.dK (kd toldL)))) H') ?_ ?_ ?_ ?_
      · exact ⟨[], upd_same, .nil, same_new nDl⟩
      · rintro i H' ⟨rs, _, _, sm⟩; exact sm _ _ upd_same
      · rintro i k x H' hk ⟨rs, hDl, tr, sm⟩
        obtain ⟨c, hc, rfl, rfl⟩ := kd_at hk
        have cm := List.mem_of_getElem? hc
        refine ⟨rfl, ?_⟩
        refine ⟨_, rfl, _, rfl, _, rfl, PD, _, rfl, dgL (.inr ⟨od, sm _ _ upd_same⟩) pq.ok.nd cm, _, rfl, by show 2 ≤ sizeLine; rw [sizeLine_eq]; omega, fun p2 np2 => ?_⟩
        have s3 := same_new (o := .tup [V.int c.1, V.int (-c.2)]) np2
        have rl : rs.length = ((toldL.take i).map fun q => (q.1, -q.2)).length := Paired.length tr
        have rlen : rs.length ≤ 20 := by
          rw [rl, List.length_map, List.length_take]
          have := pq.few
          omega
        refine ⟨_, s3 _ _ hDl, by rw [List.length_map]; exact small1000 (by omega), rs ++ [p2], ?_, ?_, same_write nDl (sm.trans s3)⟩
        · rw [upd_same, List.map_append]; rfl
        · rw [take_snoc _ hc]
          have pD : p2 ≠ Dl := fun e => ne_of_none hDl np2 e.symm
          refine paired_snoc ?_ ?_
          · rw [upd_ne pD]; exact upd_same
          · exact (tr.same s3).kp (fun b o e n1 _ => by
              by_cases h : b = Dl
              · subst h; rw [s3 _ _ hDl] at e; exact absurd (Option.some.inj e).symm (n1 _)
              · rw [upd_ne h]; exact e)
      rintro HG ⟨rs, hDl, tr, sm⟩
      rw [kd_len, List.take_of_length_le (Nat.le_refl _)] at tr
      refine ⟨sm _ _ upd_same, ?_⟩
      have smH : Same HH (upd HG PD (.dK (kd toldL))) := fun b' o e => by
        by_cases h : b' = PD
        · subst h; rw [upd_same, ← hPD]; exact e
        · rw [upd_ne h]; exact sm _ _ (by rw [upd_ne h]; exact e)
      have hDl2 : (upd HG PD (.dK (kd toldL))) Dl = some (.lst (rs.map V.ref)) := by rw [upd_ne nDP]; exact hDl
      have tr2 : TrP (upd HG PD (.dK (kd toldL))) rs (toldL.map fun q => (q.1, -q.2)) := Paired.mapP tr fun r c h => by
        have : r ≠ PD := fun z => by rw [z, sm _ _ upd_same] at h; cases h
        rw [upd_ne this]; exact h
      generalize upd HG PD (.dK (kd toldL)) = HN at *
      refine ⟨Dl, rs, kd (toldL.map fun q => (q.1, -q.2)), rfl, .inl (.inl hDl2), pairsAt_kd tr2, fun PN nPN => ?_⟩
      rw [dict_of pq.neg.ok.nd]
      have sN := same_new (o := .dK (kd (toldL.map fun q => (q.1, -q.2)))) nPN
      have hPN : upd HN PN (.dK (kd (toldL.map fun q => (q.1, -q.2)))) PN = some (.dK (kd (toldL.map fun q => (q.1, -q.2)))) := upd_same
      have ddN := dd.same (smH.trans sN)
      have ooN := oo.trans (Ot.of (smH.trans sN))
      have pnD : PN ≠ D := by rintro rfl; obtain ⟨_, _, _, h, _⟩ := (dd.same smH).ex; rw [h] at nPN; cases nPN
      have pnC : PN ≠ C := by rintro rfl; obtain ⟨_, _, _, _, h, _⟩ := (dd.same smH).ex; rw [h] at nPN; cases nPN
      have pqN := pq.neg
      have gN : ((2 : Int), (-4 : Int)) ∈ toldL.map fun q => (q.1, -q.2) := by decide
      have lN : (toldL.map fun q => (q.1, -q.2)).length ≤ 19 := by decide
      have cN : cost (ip (toldL.map fun q => (q.1, -q.2)) ((2 : Nat) : Int) (-4 + twos)) ≤ 60 := by rw [neg_put]; omega
      have nN : ∀ o, H PN = some o → False := fun o hh => by
        have := (oo.trans (Ot.of smH)) _ _ hh pnD pnC
        rw [nPN] at this; cases this
      generalize upd HN PN (.dK (kd (toldL.map fun q => (q.1, -q.2)))) = HP at *
      clear sm tr hDl2 tr2 smH sN
      generalize (toldL.map fun q => (q.1, -q.2)) = LN at *
      refine ⟨_, rfl, PN, _, rfl, dgL (.inl hPN) (Pq.ok pqN).nd gN, _, rfl, _, _, rfl, rfl, _, rfl, PN, _, rfl, DPut.k (k := Sum.inl 2) hPN (by rw [kd_len, sizeLine_eq]; omega), ?_⟩
      rw [kd_put]
      have pq2 : Pq (ip LN ((2 : Nat) : Int) ((-4) + twos)) := Pq.put pqN (pr_dec (by omega) (by omega) (by decide)) (by omega) (by omega) lN
      have cst := cN
      have hP2 : upd HP PN (.dK (kd (ip LN ((2 : Nat) : Int) ((-4) + twos)))) PN = some (.dK (kd (ip LN ((2 : Nat) : Int) ((-4) + twos)))) := upd_same
      have d2 : DeckAt (upd HP PN (.dK (kd (ip LN ((2 : Nat) : Int) ((-4) + twos))))) D C (n + 1) := by
        obtain ⟨cs, m, k, hh1, hh2, r⟩ := DeckAt.ex ddN
        exact ⟨cs, m, k, by rw [upd_ne (Ne.symm pnD)]; exact hh1, by rw [upd_ne (Ne.symm pnC)]; exact hh2, r⟩
      have o2 : Ot D C H (upd HP PN (.dK (kd (ip LN ((2 : Nat) : Int) ((-4) + twos))))) := fun b o e h1 h2 => by
        by_cases h : b = PN
        · subst h; exact (nN _ e).elim
        · rw [upd_ne h]; exact ooN _ _ e h1 h2
      have hX : upd HP PN (.dK (kd (ip LN 2 ((-4) + twos)))) = upd HP PN (.dK (kd (ip LN ((2 : Nat) : Int) ((-4) + twos)))) := rfl
      rw [hX]
      clear hX
      generalize upd HP PN (.dK (kd (ip LN ((2 : Nat) : Int) ((-4) + twos)))) = HX at *
      generalize ip LN ((2 : Nat) : Int) ((-4) + twos) = LX at *
      refine ⟨_, rfl, _, rfl, _, rfl, D, C, n + 1, most, rfl, d2, by omega, by omega, by omega, fun zm H3 zm0 zm1 o3 da3 => ⟨_, _, rfl, rfl, by show 6 ≤ sizeLine; rw [sizeLine_eq]; omega, fun pt npt => ?_⟩⟩
      have yt := same_new (o := .tup [V.int 1, V.int 2, V.int 5, V.int 10, V.int 1, V.int (1 + zm)]) npt
      refine ⟨D, C, pt, n + 1 + 1, [V.int 1, V.int 2, V.int 5, V.int 10, V.int 1, V.int (1 + zm)], rfl, da3.same yt, by omega, sqT_new, by show 0 < 6; omega, by show 6 ≤ 1000; omega, fun i x H4 hx o4 da4 => ?_⟩
      obtain ⟨bb, rfl, bb0, bb1⟩ : ∃ bb : Int, x = V.int bb ∧ 0 < bb ∧ bb ≤ most := by
        match i, hx with
        | 0, hx => exact ⟨1, (Option.some.inj hx).symm, by omega, by omega⟩
        | 1, hx => exact ⟨2, (Option.some.inj hx).symm, by omega, by omega⟩
        | 2, hx => exact ⟨5, (Option.some.inj hx).symm, by omega, by omega⟩
        | 3, hx => exact ⟨10, (Option.some.inj hx).symm, by omega, by omega⟩
        | 4, hx => exact ⟨1, (Option.some.inj hx).symm, by omega, by omega⟩
        | 5, hx => exact ⟨1 + zm, (Option.some.inj hx).symm, by omega, by omega⟩
        | j + 6, hx => cases hx
      refine ⟨_, rfl, bb, PN, LX, rfl, bb0, by omega, o4 _ _ (yt _ _ (o3 _ _ hP2 pnD pnC)) pnD pnC, pq2.ok, by have := pq2.few; omega, fun q hq => by have := pq2.par q hq; omega, fun v d L' HF sF am st ll lc => ?_⟩
      exact q v d L' HF (o2.trans (o3.trans ((Ot.of yt).trans (o4.trans (Ot.of sF))))) ((da4.mono (by omega)).same sF) am (pq2.ar st bb0 (by omega) ll) (by have := st.le bb0; omega) (by omega)
    · have oo := (Ot.of sm17).trans o7
      have hPD := o7 _ _ hPD0 pdD pdC
      refine ⟨_, rfl, PD, _, rfl, dgL (.inl hPD) (Pq.ok pq).nd gD, _, rfl, _, _, rfl, rfl, _, rfl, PD, _, rfl, DPut.k (k := Sum.inl 2) hPD (by rw [kd_len, sizeLine_eq]; omega), ?_⟩
      rw [kd_put]
      have pq2 : Pq (ip toldL ((2 : Nat) : Int) ((4) + twos)) := Pq.put pq (pr_dec (by omega) (by omega) (by decide)) (by omega) (by omega) lD
      have cst := cD
      have hP2 : upd HH PD (.dK (kd (ip toldL ((2 : Nat) : Int) ((4) + twos)))) PD = some (.dK (kd (ip toldL ((2 : Nat) : Int) ((4) + twos)))) := upd_same
      have d2 : DeckAt (upd HH PD (.dK (kd (ip toldL ((2 : Nat) : Int) ((4) + twos))))) D C (n + 1) := by
        obtain ⟨cs, m, k, hh1, hh2, r⟩ := DeckAt.ex dd
        exact ⟨cs, m, k, by rw [upd_ne (Ne.symm pdD)]; exact hh1, by rw [upd_ne (Ne.symm pdC)]; exact hh2, r⟩
      have o2 : Ot D C H (upd HH PD (.dK (kd (ip toldL ((2 : Nat) : Int) ((4) + twos))))) := fun b o e h1 h2 => by
        by_cases h : b = PD
        · subst h; exact (nD _ e).elim
        · rw [upd_ne h]; exact oo _ _ e h1 h2
      have hX : upd HH PD (.dK (kd (ip toldL 2 ((4) + twos)))) = upd HH PD (.dK (kd (ip toldL ((2 : Nat) : Int) ((4) + twos)))) := rfl
      rw [hX]
      clear hX
      generalize upd HH PD (.dK (kd (ip toldL ((2 : Nat) : Int) ((4) + twos)))) = HX at *
      generalize ip toldL ((2 : Nat) : Int) ((4) + twos) = LX at *
      refine ⟨_, rfl, _, rfl, _, rfl, D, C, n + 1, most, rfl, d2, by omega, by omega, by omega, fun zm H3 zm0 zm1 o3 da3 => ⟨_, _, rfl, rfl, by show 6 ≤ sizeLine; rw [sizeLine_eq]; omega, fun pt npt => ?_⟩⟩
      have yt := same_new (o := .tup [V.int 1, V.int 2, V.int 5, V.int 10, V.int 1, V.int (1 + zm)]) npt
      refine ⟨D, C, pt, n + 1 + 1, [V.int 1, V.int 2, V.int 5, V.int 10, V.int 1, V.int (1 + zm)], rfl, da3.same yt, by omega, sqT_new, by show 0 < 6; omega, by show 6 ≤ 1000; omega, fun i x H4 hx o4 da4 => ?_⟩
      obtain ⟨bb, rfl, bb0, bb1⟩ : ∃ bb : Int, x = V.int bb ∧ 0 < bb ∧ bb ≤ most := by
        match i, hx with
        | 0, hx => exact ⟨1, (Option.some.inj hx).symm, by omega, by omega⟩
        | 1, hx => exact ⟨2, (Option.some.inj hx).symm, by omega, by omega⟩
        | 2, hx => exact ⟨5, (Option.some.inj hx).symm, by omega, by omega⟩
        | 3, hx => exact ⟨10, (Option.some.inj hx).symm, by omega, by omega⟩
        | 4, hx => exact ⟨1, (Option.some.inj hx).symm, by omega, by omega⟩
        | 5, hx => exact ⟨1 + zm, (Option.some.inj hx).symm, by omega, by omega⟩
        | j + 6, hx => cases hx
      refine ⟨_, rfl, bb, PD, LX, rfl, bb0, by omega, o4 _ _ (yt _ _ (o3 _ _ hP2 pdD pdC)) pdD pdC, pq2.ok, by have := pq2.few; omega, fun q hq => by have := pq2.par q hq; omega, fun v d L' HF sF am st ll lc => ?_⟩
      exact q v d L' HF (o2.trans (o3.trans ((Ot.of yt).trans (o4.trans (Ot.of sF))))) ((da4.mono (by omega)).same sF) am (pq2.ar st bb0 (by omega) ll) (by have := st.le bb0; omega) (by omega)
end
end K07

namespace K07
open PySem PySem.Spec PyProof.Rows L2 Ly Am
def smp : List Nat := [2, 3, 5, 7, 11, 13, 89, 997]
theorem smp_pr : ∀ k ∈ smp, Pr k ∧ k < 1000 := by
  intro k hk
  have h : ∀ k ∈ smp, 2 ≤ k ∧ k < 1000 ∧ (List.range 32).all (fun d => decide (d < 2) || decide (k < d * d) || decide (k % d ≠ 0)) = true := by decide
  obtain ⟨h1, h2, h3⟩ := h k hk
  exact ⟨pr_dec h1 (by omega) h3, h2⟩
theorem cost_le {c : Nat} : ∀ {L : List (Int × Int)}, (∀ q ∈ L, q.2.natAbs ≤ c) → cost L ≤ c * L.length
  | [], _ => Nat.zero_le _
  | q :: r, h => by
    have ih := cost_le (L := r) fun x hx => h x (List.mem_cons_of_mem _ hx)
    have e : cost (q :: r) = q.2.natAbs + cost r := rfl
    have := h q List.mem_cons_self
    rw [e, List.length_cons, Nat.mul_add]; omega
section
variable {P : Program} {w : World} {K : PySem.W.Frag} {mg : Str → Option Value} {base : Heap}
def spSmallD (K : PySem.W.Frag) : Sp := fun vs H Q _ => ∃ (D C : Addr) (n : Nat), vs = [.ref D] ∧ DeckAt H D C n ∧ n < 2 ^ 28 ∧
  ∀ v d L H', Ot D C H H' → DeckAt H' D C (n + 20) → AmtAt K H' v d L → Ar d L → d ≤ 24 → cost L ≤ 96 → Q v H'
theorem ca_L_small (T : Tx K mg) : Ca P w K mg base 3 "_law_small" s_L_small ["_law_deck_here"] (spSmallD K) := by
  have C_L_draw := ca_L_draw (P := P) (w := w) (base := base) T
  have C_L_formed := ca_L_formed (P := P) (w := w) (base := base) T
  refine Ca.of (fd_L_small T) sc_L_small ?_ ?_
  · rintro vs H Q E ⟨D, C, n, rfl, _⟩; rfl
  · rintro f cdv A out s H vs Q E hr ⟨D, C, n, rfl, da, hn, q⟩
    refine ⟨_, (pss_cons (ps_setLc (i := 1) (own := [("_law_p", 2)]) rfl sc_L_small.nd rfl rfl (sw_true rfl rfl rfl (by decide +kernel)) (pi_tup (pe_tup (pa_cons pe_int (pa_cons pe_int (pa_cons pe_int (pa_cons pe_int (pa_cons pe_int (pa_cons pe_int (pa_cons pe_int (pa_cons pe_int pa_nil)))))))))) (blkOk_by (own := [("_law_p", 2)]) (N := n_L_small) (sc := (defScope s_L_small)) (by decide +kernel)) (fun _ _ _ _ _ => (pg_name (i := 2) sc_L_small.nd rfl (Or.inl rfl) (Or.inr rfl))) (fun _ _ _ _ _ => (pts_one (pt_cmpR op_eq (pe_ca C_L_draw hr (pa_cons (pv 0) (pa_cons pe_int pa_nil))) pe_int (nomark _)))) (fun _ _ _ _ _ => (pv 2)))
 (pss_one (ps_ret (pe_ca C_L_formed hr (pa_cons (pe_op op_add pe_int (pe_ca C_L_draw hr (pa_cons (pv 0) (pa_cons pe_int pa_nil)))) (pa_cons (pe_callTy (call_dictP rfl) (by rfl) T.f_dict (by decide +kernel) (pa_cons (pe_lc (own := [("_law_p", 2)]) rfl sc_L_small.nd (pi_list (pv 1)) (blkOk_by (own := [("_law_p", 2)]) (N := n_L_small) (sc := (defScope s_L_small)) (by decide +kernel)) (fun _ _ _ _ _ => (pg_name (i := 2) sc_L_small.nd rfl (Or.inl rfl) (Or.inr rfl))) (fun _ _ _ _ _ => pts_nil) (fun _ _ _ _ _ => (pe_tup (pa_cons (pv 2) (pa_cons (pe_op op_sub (pe_ca C_L_draw hr (pa_cons (pv 0) (pa_cons pe_int pa_nil))) pe_int) pa_nil))))) pa_nil)) pa_nil)))))), ?_⟩
    refine ⟨by show 8 ≤ sizeLine; rw [sizeLine_eq]; omega, fun pt npt => ?_⟩
    have yt := same_new (o := .tup (smp.map fun (r : Nat) => V.int (r : Int))) npt
    have hpt : SqT K (upd H pt (.tup (smp.map fun (r : Nat) => V.int (r : Int)))) pt (smp.map fun (r : Nat) => V.int (r : Int)) := sqT_new
    have eq0 : upd H pt (.tup [V.int 2, V.int 3, V.int 5, V.int 7, V.int 11, V.int 13, V.int 89, V.int 997]) = upd H pt (.tup (smp.map fun (r : Nat) => V.int (r : Int))) := rfl
    rw [eq0]
    clear eq0
    generalize upd H pt (.tup (smp.map fun (r : Nat) => V.int (r : Int))) = H1 at *
    have da1 := da.same yt
    have o1 : Ot D C H H1 := Ot.of yt
    refine ⟨pt, rfl, ⟨_, hpt⟩, fun Dl nDl => ?_⟩
    have nD1 : Dl ≠ D := by rintro rfl; obtain ⟨_, _, _, h, _⟩ := da1.ex; rw [h] at nDl; cases nDl
    have nD2 : Dl ≠ C := by rintro rfl; obtain ⟨_, _, _, _, h, _⟩ := da1.ex; rw [h] at nDl; cases nDl
    refine lc_tup (xs := smp.map fun (r : Nat) => V.int (r : Int)) (fun i H' => ∃ ps : List Nat, Ot D C H1 H' ∧ DeckAt H' D C (n + i) ∧ H' Dl = some (.lst (ps.map fun (r : Nat) => V.int (r : Int))) ∧ ps.Sublist (smp.take i)) ?_ ?_ ?_ ?_
    · exact ⟨[], Ot.of (same_new nDl), da1.same (same_new nDl), upd_same, List.Sublist.slnil⟩
    · rintro i H' _ ⟨ps, ot, da', _, _⟩
      exact SqT.kp (ot.kp da1) hpt
    · rintro i x H' hx ⟨ps, ot, da', hDl, sub⟩
      obtain ⟨pp, hp, rfl⟩ := map_at hx
      have il : i < smp.length := (List.getElem?_eq_some_iff.mp hp).1
      have i8 : i < 8 := il
      have tk : smp.take (i + 1) = smp.take i ++ [pp] := by rw [List.take_add_one, hp]; rfl
      refine ⟨rfl, ?_⟩
      refine ⟨_, rfl, D, C, n + i, 3, rfl, da', by omega, by omega, by omega, fun z H3 z0 z1 o3 da3 => ⟨rfl, _, rfl, ?_⟩⟩
      have hDl3 := o3 _ _ hDl nD1 nD2
      have pl : ps.length ≤ 8 := Nat.le_trans sub.length_le (by rw [List.length_take]; exact Nat.min_le_right _ _)
      refine ite2 (fun _ => ?_) (fun _ => ?_)
      · refine ⟨_, rfl, _, hDl3, by rw [List.length_map]; exact small1000 (by omega), ps ++ [pp], ?_, ?_, ?_, ?_⟩
        · intro b o e h1 h2
          have e2 := o3 _ _ (ot b o e h1 h2) h1 h2
          by_cases h : b = Dl
          · exfalso
            subst h
            rw [nDl] at e; cases e
          · rw [upd_ne h]; exact e2
        · obtain ⟨cs, m, k, hh1, hh2, r⟩ := da3.ex
          exact ⟨cs, m, k, by rw [upd_ne (Ne.symm nD1)]; exact hh1, by rw [upd_ne (Ne.symm nD2)]; exact hh2, r⟩
        · rw [upd_same, List.map_append]; rfl
        · rw [tk]; exact sub.append (List.Sublist.refl _)
      · exact ⟨ps, ot.trans o3, da3, hDl3, by rw [tk]; exact sub.trans (List.sublist_append_left _ _)⟩
    rintro H2 ⟨ps, ot2, da2, hDl, sub⟩
    rw [List.length_map] at da2
    have da2' : DeckAt H2 D C (n + 8) := da2
    have sub8 : ps.Sublist smp := sub.trans (List.take_sublist _ _)
    have pin : ∀ k ∈ ps, Pr k ∧ k < 1000 := fun k hk => smp_pr k (sub8.subset hk)
    have pnd : ps.Nodup := sub8.nodup (by decide)
    have pl : ps.length ≤ 8 := sub8.length_le
    have o2 := o1.trans ot2
    clear da da1 o1 ot2 sub sub8 hpt yt nDl npt da2
    refine ⟨_, rfl, D, C, n + 8, 24, rfl, da2', by omega, by omega, by omega, fun zd H3 zd0 zd1 o3 da3 => ⟨_, _, rfl, rfl, ?_⟩⟩
    have hDl3 := o3 _ _ hDl nD1 nD2
    refine ⟨_, rfl, Dl, rfl, ⟨_, .inl (.inl hDl3)⟩, fun D2 nD2' => ?_⟩
    have e1 : D2 ≠ D := by rintro rfl; obtain ⟨_, _, _, h, _⟩ := da3.ex; rw [h] at nD2'; cases nD2'
    have e2 : D2 ≠ C := by rintro rfl; obtain ⟨_, _, _, _, h, _⟩ := da3.ex; rw [h] at nD2'; cases nD2'
    have e3 : Dl ≠ D2 := by rintro rfl; rw [hDl3] at nD2'; cases nD2'
    refine lc_list (xs := ps.map fun (r : Nat) => V.int (r : Int)) (fun i H' => ∃ (rs : List Addr) (L : List (Int × Int)), Ot D C H3 H' ∧ DeckAt H' D C (n + 9 + i) ∧ H' D2 = some (.lst (rs.map V.ref)) ∧ TrP H' rs L ∧ L.map (·.1) = (ps.take i).map (fun (r : Nat) => (r : Int)) ∧ ∀ q ∈ L, q.2.natAbs ≤ 12) ?_ ?_ ?_ ?_
    · exact ⟨[], [], Ot.of (same_new nD2'), da3.same (same_new nD2'), upd_same, .nil, rfl, by simp⟩
    · rintro i H' _ ⟨rs, L, ot, _⟩
      exact .inl (.inl (ot _ _ hDl3 nD1 nD2))
    · rintro i x H' hx ⟨rs, L, ot, da', hD2, tr, kl, kb⟩
      obtain ⟨pp, hp, rfl⟩ := map_at hx
      have il : i < ps.length := (List.getElem?_eq_some_iff.mp hp).1
      refine ⟨rfl, ?_⟩
      refine ⟨_, rfl, _, rfl, D, C, n + 9 + i, 25, rfl, da', by omega, by omega, by omega, fun z H5 z0 z1 o5 da5 => ⟨_, _, rfl, rfl, by show 2 ≤ sizeLine; rw [sizeLine_eq]; omega, fun p2 np2 => ?_⟩⟩
      have hD5 := o5 _ _ hD2 e1 e2
      have s6 := same_new (o := .tup [V.int (pp : Int), V.int (z - 12)]) np2
      have tr5 : TrP H5 rs L := tr.kp (o5.kp da')
      have rl : rs.length = L.length := Paired.length tr
      have ll : L.length ≤ 8 := by
        have := congrArg List.length kl
        rw [List.length_map, List.length_map, List.length_take] at this
        omega
      have pD : p2 ≠ D2 := fun e => ne_of_none hD5 np2 e.symm
      refine ⟨_, s6 _ _ hD5, by rw [List.length_map]; exact small1000 (by omega), rs ++ [p2], L ++ [((pp : Int), z - 12)], ?_, ?_, ?_, ?_, ?_, ?_⟩
      · intro b o e h1 h2
        have g := s6 _ _ (o5 _ _ (ot b o e h1 h2) h1 h2)
        by_cases h : b = D2
        · exfalso
          subst h
          rw [nD2'] at e; cases e
        · rw [upd_ne h]; exact g
      · obtain ⟨cs, m, k, hh1, hh2, r⟩ := ((da5.mono (show n + 9 + i + 1 ≤ n + 9 + (i + 1) by omega)).same s6).ex
        exact ⟨cs, m, k, by rw [upd_ne (Ne.symm e1)]; exact hh1, by rw [upd_ne (Ne.symm e2)]; exact hh2, r⟩
      · rw [upd_same, List.map_append]; rfl
      · refine paired_snoc ?_ ?_
        · rw [upd_ne pD]; exact upd_same
        · exact (tr5.same s6).kp (fun b o e n1 _ => by
            by_cases h : b = D2
            · subst h; rw [s6 _ _ hD5] at e; exact absurd (Option.some.inj e).symm (n1 _)
            · rw [upd_ne h]; exact e)
      · rw [List.map_append, kl, List.take_add_one, hp, List.map_append]; rfl
      · intro q hq
        rcases List.mem_append.mp hq with h | h
        · exact kb q h
        · rw [List.mem_singleton.mp h]; show (z - 12).natAbs ≤ 12; omega
    rintro H4 ⟨rs, L, ot4, da4, hD2, tr, kl, kb⟩
    rw [List.length_map] at da4
    rw [List.length_map, List.take_of_length_le (Nat.le_refl _)] at kl
    have ndL : (L.map (·.1)).Nodup := by
      rw [kl]
      unfold List.Nodup
      rw [List.pairwise_map]
      exact pnd.imp fun {a b} h e => h (by omega)
    have lL : L.length ≤ 8 := by
      have := congrArg List.length kl
      rw [List.length_map, List.length_map] at this
      omega
    have pq : Pq L := by
      have mem : ∀ q ∈ L, ∃ k ∈ ps, q.1 = ((k : Nat) : Int) := fun q hq => by
        have : q.1 ∈ L.map (·.1) := List.mem_map.mpr ⟨q, hq, rfl⟩
        rw [kl] at this
        obtain ⟨k, hk, e⟩ := List.mem_map.mp this
        exact ⟨k, hk, e.symm⟩
      refine ⟨⟨ndL, fun q hq => ?_⟩, by omega, fun q hq => ?_, fun q hq => by have := kb q hq; omega⟩
      · obtain ⟨k, hk, e⟩ := mem q hq
        obtain ⟨h1, h2⟩ := pin k hk
        exact ⟨k, e, h1, by omega⟩
      · obtain ⟨k, hk, e⟩ := mem q hq
        have := (pin k hk).2
        omega
    refine ⟨D2, rs, kd L, rfl, .inl (.inl hD2), pairsAt_kd tr, fun PD nPD => ?_⟩
    rw [dict_of ndL]
    have s5 := same_new (o := .dK (kd L)) nPD
    refine ⟨1 + zd, PD, L, rfl, by omega, by omega, upd_same, pq.ok, by omega, fun q hq => by have := kb q hq; omega, fun v d L' HF sF am st ll lc => ?_⟩
    have cl := cost_le kb
    exact q v d L' HF (o2.trans (o3.trans (ot4.trans (Ot.of (s5.trans sF))))) ((da4.mono (by omega)).same (s5.trans sF)) am (pq.ar st (by omega) (by omega) ll) (by have := st.le (show 0 < 1 + zd by omega); omega) (by omega)
end
end K07

namespace K07
open PySem PySem.Spec PyProof.Rows L2 Ly Am
theorem cmpx {u z T B : Int} {x : Nat} (u0 : 0 < u) (z0 : 0 < z) (T0 : 0 < T) (B0 : 0 < B) (hx : 0 < x) (e : u ^ x * B = T * z ^ x) : (u < z ↔ T < B) ∧ (u = z ↔ T = B) := by
  have up := ipp x u0
  have zp := ipp x z0
  have st : ∀ {a b : Int}, 0 < a → a < b → a ^ x < b ^ x := fun {a b} a0 h => by
    have e1 : a = (a.toNat : Int) := by omega
    have e2 : b = (b.toNat : Int) := by omega
    have := (Nat.pow_lt_pow_iff_left (n := x) (by omega)).mpr (show a.toNat < b.toNat by omega)
    rw [e1, e2]; exact_mod_cast this
  have lt : u < z → T < B := fun h => by
    have h1 := st u0 h
    have h2 : T * z ^ x < B * z ^ x := by rw [← e, Int.mul_comm B]; exact Int.mul_lt_mul_of_pos_right h1 B0
    exact Int.lt_of_mul_lt_mul_right h2 (by omega)
  have gt : z < u → B < T := fun h => by
    have h1 := st z0 h
    have h2 : B * u ^ x < T * u ^ x := by
      rw [Int.mul_comm B, e, Int.mul_comm T, Int.mul_comm T]
      exact Int.mul_lt_mul_of_pos_right h1 T0
    exact Int.lt_of_mul_lt_mul_right h2 (by omega)
  have eq : u = z → T = B := fun h => by
    rw [h, Int.mul_comm] at e
    exact (Int.eq_of_mul_eq_mul_right (by omega) e).symm
  rcases Int.lt_trichotomy u z with h | h | h
  · have := lt h; omega
  · have := eq h; omega
  · have := gt h; omega
theorem sgn_of {L : List (Int × Int)} {d many T B : Int} {f : Int → Int} (st : St4 d L many f) (hm : 0 < many) (hT : 0 < T) (hB : 0 < B) (h : ∀ p : Nat, Pr p → vi p T = vi p B + f p) :
    (up 1 L < dn 1 L ↔ T < B) ∧ (up 1 L = dn 1 L ↔ T = B) ∧ sgn L = ordI T B := by
  have hL : ∀ q ∈ L, 0 < q.1 := fun q hq => by
    obtain ⟨n, e, pn, _⟩ := st.1.pr q hq
    have := pn.pos; omega
  obtain ⟨u0, d0⟩ := upk_pos (k := 1) hL
  have d1 := st.1.d1
  obtain ⟨x, hx⟩ := st.dvd hm
  have ex : many / d = x := by rw [hx]; exact Int.mul_ediv_cancel_left _ (by omega)
  have x0 : 0 < x := by
    apply Int.pos_of_mul_pos_right (a := d) <;> omega
  obtain ⟨c1, c2⟩ := cmpx u0 d0 hT hB (show 0 < (many / d).toNat by omega) (sides_eq st hm hT hB h)
  refine ⟨c1, c2, ?_⟩
  unfold sgn ordI
  rcases Int.lt_trichotomy T B with z | z | z
  · rw [if_neg (by omega), if_neg (by omega), if_neg (by omega), if_pos z]; omega
  · rw [if_pos (by omega), if_neg (by omega), if_neg (by omega)]; omega
  · rw [if_neg (by omega), if_pos (by omega), if_pos z, if_neg (by omega)]; omega
theorem updn_pow (k : Nat) : ∀ L : List (Int × Int), up k L = up 1 L ^ k ∧ dn k L = dn 1 L ^ k
  | [] => by
    have : ∀ k : Nat, (1 : Int) ^ k = 1 := fun k => Int.one_pow
    exact ⟨(this k).symm, (this k).symm⟩
  | q :: r => by
    obtain ⟨h1, h2⟩ := updn_pow k r
    have e : ∀ c : Nat, q.1 ^ (k * c) = (q.1 ^ (1 * c)) ^ k := fun c => by rw [Nat.one_mul, ← Int.pow_mul, Nat.mul_comm]
    refine ⟨?_, ?_⟩
    · show (if 0 < q.2 then q.1 ^ (k * q.2.natAbs) else 1) * up k r = ((if 0 < q.2 then q.1 ^ (1 * q.2.natAbs) else 1) * up 1 r) ^ k
      rw [Int.mul_pow, h1]
      split
      · rw [e]
      · rw [Int.one_pow]
    · show (if 0 < q.2 then 1 else q.1 ^ (k * q.2.natAbs)) * dn k r = ((if 0 < q.2 then 1 else q.1 ^ (1 * q.2.natAbs)) * dn 1 r) ^ k
      rw [Int.mul_pow, h2]
      split
      · rw [Int.one_pow]
      · rw [e]
theorem le2_step {s a b : Int} (ha : 0 < a) (hb : 0 < b) (h : le2 (s + 1) a b) : le2 s a b := by
  unfold le2 at *
  by_cases c : 0 ≤ s
  · rw [show (s + 1).toNat = s.toNat + 1 by omega, show (-(s + 1)).toNat = 0 by omega] at h
    rw [show (-s).toNat = 0 by omega]
    rw [Int.pow_succ] at h
    have := Int.mul_pos hb (ipp s.toNat (show (0 : Int) < 2 by omega))
    rw [← Int.mul_assoc] at h
    omega
  · rw [show (s + 1).toNat = 0 by omega] at h
    rw [show s.toNat = 0 by omega, show (-s).toNat = (-(s + 1)).toNat + 1 by omega, Int.pow_succ, ← Int.mul_assoc]
    have := Int.mul_pos ha (ipp (-(s + 1)).toNat (show (0 : Int) < 2 by omega))
    omega
theorem le2_down {a b : Int} (ha : 0 < a) (hb : 0 < b) : ∀ (n : Nat) {s : Int}, le2 (s + n) a b → le2 s a b
  | 0, s, h => by simpa using h
  | n + 1, s, h => le2_step ha hb (le2_down ha hb n (s := s + 1) (by rw [show s + 1 + (n : Int) = s + ((n + 1 : Nat) : Int) by omega]; exact h))
theorem le2_iff {e s a b : Int} (ha : 0 < a) (hb : 0 < b) (h1 : le2 e a b) (h2 : ¬ le2 (e + 1) a b) : le2 s a b ↔ s ≤ e := by
  constructor
  · intro h
    apply Classical.byContradiction
    intro c
    apply h2
    exact le2_down ha hb (s - (e + 1)).toNat (by rw [show e + 1 + (((s - (e + 1)).toNat : Nat) : Int) = s by omega]; exact h)
  · intro h
    exact le2_down ha hb (e - s).toNat (by rw [show s + (((e - s).toNat : Nat) : Int) = e by omega]; exact h1)
theorem pow_le_iff {a b : Int} {x : Nat} (ha : 0 < a) (hb : 0 < b) (hx : 0 < x) : a ^ x ≤ b ^ x ↔ a ≤ b := by
  have e1 : a = (a.toNat : Int) := by omega
  have e2 : b = (b.toNat : Int) := by omega
  have := Nat.pow_le_pow_iff_left (a := a.toNat) (b := b.toNat) (n := x) (by omega)
  rw [e1, e2]
  exact_mod_cast this
theorem updn_wct (k : Nat) : ∀ {L : List (Int × Int)}, (∀ q ∈ L, 0 < q.1) → up k L ≤ 2 ^ (k * wct L) ∧ dn k L ≤ 2 ^ (k * wct L)
  | [], _ => by
    show (1 : Int) ≤ 2 ^ (k * 0) ∧ (1 : Int) ≤ 2 ^ (k * 0)
    rw [Nat.mul_zero]; exact ⟨Int.le_refl _, Int.le_refl _⟩
  | q :: r, h => by
    obtain ⟨i1, i2⟩ := updn_wct k (L := r) fun x hx => h x (List.mem_cons_of_mem _ hx)
    obtain ⟨u0, d0⟩ := upk_pos (k := k) (L := r) fun x hx => h x (List.mem_cons_of_mem _ hx)
    have q0 := h q List.mem_cons_self
    have e2 : wct (q :: r) = q.2.natAbs * (q.1.toNat.log2 + 1) + wct r := rfl
    have b1 : q.1 ≤ 2 ^ (q.1.toNat.log2 + 1) := by
      have := Nat.lt_log2_self (n := q.1.toNat)
      have e : ((2 : Int) ^ (q.1.toNat.log2 + 1)) = ((2 ^ (q.1.toNat.log2 + 1) : Nat) : Int) := by simp
      omega
    have b2 : q.1 ^ (k * q.2.natAbs) ≤ 2 ^ (k * (q.2.natAbs * (q.1.toNat.log2 + 1))) := by
      have h1 := ipl (by omega) b1 (k * q.2.natAbs)
      rw [← Int.pow_mul] at h1
      rw [show k * (q.2.natAbs * (q.1.toNat.log2 + 1)) = (q.1.toNat.log2 + 1) * (k * q.2.natAbs) by rw [Nat.mul_comm (q.1.toNat.log2 + 1), Nat.mul_assoc]]
      exact h1
    have p0 := ipp (k * q.2.natAbs) q0
    have one : (1 : Int) ≤ 2 ^ (k * (q.2.natAbs * (q.1.toNat.log2 + 1))) := by
      have := ipp (k * (q.2.natAbs * (q.1.toNat.log2 + 1))) (show (0 : Int) < 2 by omega)
      omega
    rw [e2, Nat.mul_add, Int.pow_add]
    have gen : ∀ x y : Int, 0 ≤ x → x ≤ 2 ^ (k * (q.2.natAbs * (q.1.toNat.log2 + 1))) → 0 ≤ y → y ≤ 2 ^ (k * wct r) → x * y ≤ 2 ^ (k * (q.2.natAbs * (q.1.toNat.log2 + 1))) * 2 ^ (k * wct r) := fun x y x0 x1 y0 y1 => Int.mul_le_mul x1 y1 y0 (by omega)
    refine ⟨?_, ?_⟩
    · show (if 0 < q.2 then q.1 ^ (k * q.2.natAbs) else 1) * up k r ≤ _
      refine gen _ _ ?_ ?_ (by omega) i1
      · split <;> omega
      · split <;> assumption
    · show (if 0 < q.2 then 1 else q.1 ^ (k * q.2.natAbs)) * dn k r ≤ _
      refine gen _ _ ?_ ?_ (by omega) i2
      · split <;> omega
      · split <;> assumption
theorem Ar.pos {d : Int} {L : List (Int × Int)} (a : Ar d L) : ∀ q ∈ L, 2 ≤ q.1 := fun q hq => by
  obtain ⟨n, e, pn, _⟩ := a.cn.pr q hq
  have := pn.two; omega
theorem Ar.fits {d : Int} {L : List (Int × Int)} {k : Nat} (a : Ar d L) (hk : k ≤ 100) (hw : k * wct L ≤ 20000) : Fits 10 k L := by
  have c2 := wct_cost a.pos
  have kc : 2 * (k * cost L) ≤ 20000 := by
    have : k * (2 * cost L) ≤ k * wct L := Nat.mul_le_mul_left _ c2
    have e : k * (2 * cost L) = 2 * (k * cost L) := Nat.mul_left_comm ..
    omega
  have few := a.few
  refine ⟨fun q hq => ?_, fun q hq => ?_, by omega, by omega, fun q hq => by have := a.par q hq; omega⟩
  · have := a.pos q hq
    have := a.key q hq
    omega
  · have h1 : k * q.2.natAbs ≤ k * cost L := Nat.mul_le_mul_left _ (cost_mem hq)
    omega
theorem Ar.e_small {d e : Int} {L : List (Int × Int)} {k : Nat} (a : Ar d L) (hw : k * wct L ≤ 20000) (h1 : le2 e (up k L) (dn k L)) (h2 : ¬ le2 (e + 1) (up k L) (dn k L)) : e.natAbs ≤ 20001 := by
  have hL : ∀ q ∈ L, 0 < q.1 := fun q hq => by have := a.pos q hq; omega
  obtain ⟨uk, dk⟩ := upk_pos (k := k) hL
  obtain ⟨ub, db⟩ := updn_wct k hL
  generalize k * wct L = N at *
  have pe : ∀ (z : Int) (j : Nat), z ≤ 2 ^ N → (2 : Int) ^ j ≤ z → j ≤ N := fun z j hz h => by
    apply Classical.byContradiction
    intro c
    have g1 : 2 ^ N < 2 ^ j := Nat.pow_lt_pow_right (by omega) (by omega)
    have g2 : ((2 ^ j : Nat) : Int) ≤ ((2 ^ N : Nat) : Int) := by
      have := Int.le_trans h hz
      simpa using this
    omega
  unfold le2 at h1 h2
  by_cases c : 0 ≤ e
  · rw [show (-e).toNat = 0 by omega, Int.pow_zero, Int.mul_one] at h1
    have g := ipp e.toNat (show (0 : Int) < 2 by omega)
    have : (2 : Int) ^ e.toNat ≤ dn k L * 2 ^ e.toNat := by
      have := Int.mul_le_mul_of_nonneg_right (show 1 ≤ dn k L by omega) (Int.le_of_lt g)
      omega
    have := pe (up k L) e.toNat ub (by omega)
    omega
  · rw [show (e + 1).toNat = 0 by omega, Int.pow_zero, Int.mul_one] at h2
    have g := ipp (-(e + 1)).toNat (show (0 : Int) < 2 by omega)
    have : (2 : Int) ^ (-(e + 1)).toNat ≤ up k L * 2 ^ (-(e + 1)).toNat := by
      have := Int.mul_le_mul_of_nonneg_right (show 1 ≤ up k L by omega) (Int.le_of_lt g)
      omega
    have := pe (dn k L) (-(e + 1)).toNat db (by omega)
    omega
/-- the doublings that fit below k times an amount with the bottom d -/
theorem fit_iff {d e : Int} {L : List (Int × Int)} {k : Nat} (hL : ∀ q ∈ L, 0 < q.1) (dp : 0 < d) (h1 : le2 e (up k L) (dn k L)) (h2 : ¬ le2 (e + 1) (up k L) (dn k L)) (s : Int) :
    2 ^ (s.toNat * d.toNat) * dn 1 L ^ k ≤ 2 ^ ((-s).toNat * d.toNat) * up 1 L ^ k ↔ s ≤ e / d := by
  obtain ⟨uk, dk⟩ := upk_pos (k := k) hL
  rw [Int.le_ediv_iff_mul_le dp, ← le2_iff uk dk h1 h2, ← (updn_pow k L).1, ← (updn_pow k L).2]
  unfold le2
  have t1 : (s * d).toNat = s.toNat * d.toNat := by
    by_cases c : 0 ≤ s
    · have : ((s.toNat * d.toNat : Nat) : Int) = s * d := by rw [Int.natCast_mul]; congr 1 <;> omega
      omega
    · have : s * d ≤ 0 := Int.mul_nonpos_of_nonpos_of_nonneg (by omega) (by omega)
      rw [show s.toNat = 0 by omega, Nat.zero_mul]; omega
  have t2 : (-(s * d)).toNat = (-s).toNat * d.toNat := by
    rw [← Int.neg_mul]
    by_cases c : 0 ≤ -s
    · have : (((-s).toNat * d.toNat : Nat) : Int) = -s * d := by rw [Int.natCast_mul]; congr 1 <;> omega
      omega
    · have : -s * d ≤ 0 := Int.mul_nonpos_of_nonpos_of_nonneg (by omega) (by omega)
      rw [show (-s).toNat = 0 by omega, Nat.zero_mul]; omega
  rw [t1, t2, Int.mul_comm (dn k L), Int.mul_comm (up k L)]
end K07

namespace K07
open PySem PySem.Spec PyProof.Rows L2 Ly Am
theorem no_ne {x y : Str} (h : x = y) : (!decide (V.str x = V.str y)) = false := by rw [h]; simp
section
variable {P : Program} {w : World} {K : PySem.W.Frag} {mg : Str → Option Value} {base : Heap}
local macro_rules | `(tactic| walk_at "isint") => `(tactic| refine ⟨_, "int", true, false, rfl, tyx_int, by decide +kernel, by decide +kernel, ?_⟩)
def spStepsD (K : PySem.W.Frag) : Sp := fun vs H Q _ => ∃ (v : V) (d : Int) (L : List (Int × Int)) (k : Nat), vs = [v, .int k] ∧ AmtAt K H v d L ∧ Ar d L ∧ 0 < k ∧ k ≤ 100 ∧ k * wct L ≤ 20000 ∧
  ∀ e H', Same H H' → le2 e (up k L) (dn k L) → ¬ le2 (e + 1) (up k L) (dn k L) → Q (.int (e / d)) H'
theorem ca_L_are_steps_right (T : Tx K mg) : CaG P w K mg base 7 "_law_are_steps_right" s_L_are_steps_right ["_law_amount", "_law_k"] (spStepsD K) := by
  have C_L_power := ca_L_power (P := P) (w := w) (base := base) T
  have C_L_sides := ca_L_sides (P := P) (w := w) (base := base) T
  have C_L_is_integer := ca_L_is_integer (P := P) (w := w) (base := base) T
  have C_steps_of := ca_steps_of (P := P) (w := w) (base := base) T
  refine CaG.of (fd_L_are_steps_right T) sc_L_are_steps_right ?_ ?_
  · rintro vs H Q E ⟨v, d, L, k, rfl, _⟩; rfl
  · rintro f cdv A out s H vs Q E hgd hr ⟨v, d, L, k, rfl, am, ar, k0, k1, kw, q⟩
    refine ⟨_, (pss_cons (ps_asg (pe_tup (pa_cons (pe_ca C_steps_of hr (pa_cons (pv 0) (pa_cons (pv 1) pa_nil))) (pa_cons (pe_ca C_L_sides hr (pa_cons (pv 0) pa_nil)) pa_nil))) (pg_tup rfl (pgs_cons (pg_name (i := 2) sc_L_are_steps_right.nd rfl (.inl rfl)) (pgs_cons (pg_tup rfl (pgs_cons (pg_name (i := 3) sc_L_are_steps_right.nd rfl (.inl rfl)) (pgs_cons (pg_name (i := 4) sc_L_are_steps_right.nd rfl (.inl rfl)) pgs_nil))) pgs_nil))))
 (pss_cons (ps_if (PW.pt (pw_or (pt_not (pt_val (pe_ca C_L_is_integer hr (pa_cons (pv 2) pa_nil)))) (pw_or (pt_cmpR op_gt (pe_callB call_abs (by rfl) T.f_abs (by decide +kernel) (pa_cons (pv 2) pa_nil)) pe_int (nomark _)) (pw_or1 (pt_cmpR op_ne (pe_callB SkE.call_repr_int (by rfl) T.f_repr (by decide +kernel) (pa_cons (pe_caKr ["k", "amount"] C_steps_of hr (pk_cons (pv 1) (pk_cons (pv 0) pk_nil)) (fun _ _ _ _ _ _ ws hl => match ws, hl with | [_, _], _ => rfl)) pa_nil)) (pe_callB SkE.call_repr_int (by rfl) T.f_repr (by decide +kernel) (pa_cons (pv 2) pa_nil)) (nomark _))))))
 (pss_one (ps_ret pe_non))
 pss_nil)
 (pss_cons (ps_for PassesOwn.never rfl (pi_tup (pe_tup (pa_cons (pe_tup (pa_cons (pv 2) (pa_cons pe_bl pa_nil))) (pa_cons (pe_tup (pa_cons (pe_op op_add (pv 2) pe_int) (pa_cons pe_bl pa_nil))) pa_nil)))) (pg_tup rfl (pgs_cons (pg_name (i := 5) sc_L_are_steps_right.nd rfl (.inl rfl)) (pgs_cons (pg_name (i := 6) sc_L_are_steps_right.nd rfl (.inl rfl)) pgs_nil)))
 (pss_cons (ps_set (i := 7) sc_L_are_steps_right.nd rfl (.inl rfl) (pe_op op_mulW (pe_ca C_L_power hr (pa_cons pe_int (pa_cons (pe_op op_mulW (pe_callB (call_max2 rfl) (by rfl) T.f_max (by decide +kernel) (pa_cons pe_int (pa_cons (pv 5) pa_nil))) (pe_ix ix_tup (pv 0) pe_int (fun _ _ => rfl))) pa_nil))) (pe_ca C_L_power hr (pa_cons (pv 4) (pa_cons (pv 1) pa_nil)))))
 (pss_cons (ps_set (i := 8) sc_L_are_steps_right.nd rfl (.inl rfl) (pe_op op_mulW (pe_ca C_L_power hr (pa_cons pe_int (pa_cons (pe_op op_mulW (pe_callB (call_max2 rfl) (by rfl) T.f_max (by decide +kernel) (pa_cons pe_int (pa_cons (pe_un un_neg (pv 5)) pa_nil))) (pe_ix ix_tup (pv 0) pe_int (fun _ _ => rfl))) pa_nil))) (pe_ca C_L_power hr (pa_cons (pv 3) (pa_cons (pv 1) pa_nil)))))
 (pss_one (ps_if (pt_cmpR op_ne (pe_cmpR op_le (pv 7) (pv 8) (nomark _)) (pv 6) (nomark _))
 (pss_one (ps_ret pe_non))
 pss_nil)))))
 (pss_one (ps_ret (pv 2)))))), ?_⟩
    have ok := ar.ok
    have fk := ar.fits k1 kw
    have f1 : Fits 10 1 L := ar.fits (by omega) (by
      have : 1 * wct L ≤ k * wct L := Nat.mul_le_mul_right _ (by omega)
      omega)
    have lp : ∀ q ∈ L, 0 < q.1 := fun q hq => by have := ar.pos q hq; omega
    obtain ⟨uk0, dk0⟩ := upk_pos (k := k) lp
    have dp := ar.cn.d1
    have dl := ar.dl
    refine ⟨_, rfl, _, rfl, v, d, L, k, 10, rfl, am, ok, k0, k1, fk, fun e H1 s1 g1 g2 => ?_⟩
    refine ⟨_, rfl, v, d, L, 10, rfl, am.same s1, f1, fun t H2 s2 ht => ?_⟩
    have z2 : 2 ≤ sizeLine := by rw [sizeLine_eq]; omega
    refine ⟨z2, fun t9 nt9 => ?_⟩
    have s3 := same_new (o := .tup [V.int (e / d), V.ref t]) nt9
    refine ⟨t9, _, rfl, sqT_new, rfl, _, _, rfl, _, [], rfl, t, _, rfl, SqT.same s3 ht, rfl, _, _, rfl, _, [], rfl, rfl, rfl, ?_⟩
    generalize upd H2 t9 (.tup [V.int (e / d), V.ref t]) = H3 at *
    have es := ar.e_small kw g1 g2
    have fit := fit_iff lp dp g1 g2
    refine ⟨_, rfl, ?_⟩
    walk_at "isint"
    refine ⟨true, rfl, iteF ?_⟩
    have Ss : (e / d).natAbs ≤ 20001 := Nat.le_trans (Int.natAbs_ediv_le_natAbs e d) es
    have Sd : (e / d).natAbs * d.toNat ≤ 22000 := by
      have a1 := Int.ediv_mul_le e (show d ≠ 0 by omega)
      have a2 := Int.lt_ediv_add_one_mul_self e dp
      have a3 : (((e / d).natAbs * d.toNat : Nat) : Int) = ((e / d).natAbs : Int) * d := by rw [Int.natCast_mul]; congr 1; omega
      rw [Int.add_mul, Int.one_mul] at a2
      by_cases c : 0 ≤ e / d
      · have : ((e / d).natAbs : Int) = e / d := by omega
        rw [this] at a3; omega
      · have : ((e / d).natAbs : Int) = -(e / d) := by omega
        rw [this, Int.neg_mul] at a3; omega
    have hs : decide ((100000 : Int) < (if e / d < 0 then -(e / d) else e / d)) = false := decide_eq_false (by split <;> omega)
    refine ⟨_, rfl, _, rfl, _, _, rfl, rfl, _, rfl, ?_⟩
    rw [hs]
    refine iteF ?_
    have s03 := s1.trans (s2.trans s3)
    refine ⟨_, rfl, _, rfl, v, d, L, k, 10, rfl, am.same s03, ok, k0, k1, fk, fun e2 H4 s4 g3 g4 => ?_⟩
    have ee2 : e2 = e := by
      have h1 := (le2_iff uk0 dk0 g1 g2).mp g3
      have h2 := (le2_iff uk0 dk0 g3 g4).mp g1
      omega
    rw [ee2]
    have s04 := s03.trans s4
    have fin := fun H' (sm : Same H H') => q e H' sm g1 g2
    generalize e / d = S at *
    have slog : S.natAbs.log2 < 1920 := by
      by_cases z : S.natAbs = 0
      · rw [z]; decide
      · have : S.natAbs.log2 < 20 := (Nat.log2_lt z).mpr (by omega)
        omega
    refine ⟨S, rfl, slog, _, rfl, S, rfl, slog, rfl, _, rfl, ?_⟩
    rw [no_ne rfl]
    refine iteF ?_
    refine ⟨_, rfl, z2, fun q1 nq1 => ⟨_, rfl, _, _, rfl, rfl, z2, fun q2 nq2 => ⟨z2, fun q3 nq3 => ?_⟩⟩⟩
    have y1 := same_new (o := .tup [V.int S, V.bl true]) nq1
    have y2 := same_new (o := .tup [V.int (S + 1), V.bl false]) nq2
    have y3 := same_new (o := .tup [V.ref q1, V.ref q2]) nq3
    have hq1 := SqT.same (y2.trans y3) (sqT_new (K := K) (H := H4) (p := q1) (xs := [V.int S, V.bl true]))
    have hq2 := SqT.same y3 (sqT_new (K := K) (H := upd H4 q1 (.tup [V.int S, V.bl true])) (p := q2) (xs := [V.int (S + 1), V.bl false]))
    have hq3 := sqT_new (K := K) (H := upd (upd H4 q1 (.tup [V.int S, V.bl true])) q2 (.tup [V.int (S + 1), V.bl false])) (p := q3) (xs := [V.ref q1, V.ref q2])
    have s0f := s04.trans (y1.trans (y2.trans y3))
    generalize upd (upd (upd H4 q1 (.tup [V.int S, V.bl true])) q2 (.tup [V.int (S + 1), V.bl false])) q3 (.tup [V.ref q1, V.ref q2]) = Hf at *
    obtain ⟨a, b, rs, rfl, ha, _, _⟩ := am.same s0f
    have hL := updn_wct 1 lp
    obtain ⟨u10, d10⟩ := upk_pos (k := 1) lp
    have bN : ∀ z : Int, 0 < z → z ≤ 2 ^ (1 * wct L) → z.natAbs < 2 ^ (wct L + 1) := fun z z0 hz => by
      rw [Nat.one_mul] at hz
      have g : z.natAbs ≤ 2 ^ wct L := by
        have e : ((2 : Int) ^ wct L) = ((2 ^ wct L : Nat) : Int) := by simp
        omega
      have : 2 ^ wct L < 2 ^ (wct L + 1) := Nat.pow_lt_pow_right (by omega) (by omega)
      omega
    have ub := bN _ u10 hL.1
    have db := bN _ d10 hL.2
    have kw2 : (wct L + 1) * (2 * k) ≤ 50000 := by
      have e1 : (wct L + 1) * (2 * k) = 2 * (k * wct L) + 2 * k := by
        rw [Nat.add_mul, Nat.one_mul, Nat.mul_left_comm, Nat.mul_comm (wct L) k]
      omega
    have kw3 : (wct L + 1) * k ≤ 25000 := by
      have e1 : (wct L + 1) * (2 * k) = 2 * ((wct L + 1) * k) := Nat.mul_left_comm ..
      omega
    have wU := pow_bits ub k
    have wD := pow_bits db k
    refine ⟨q3, rfl, ⟨_, hq3⟩, ?_⟩
    refine for_tup (xs := [V.ref q1, V.ref q2]) (fun i σ H' => ∃ y5 y6 y7 y8, σ = [some (.ref a), some (.int (k : Int)), some (.int S), some (.int (up 1 L)), some (.int (dn 1 L)), y5, y6, y7, y8] ∧ Hf = H') ⟨none, none, none, none, rfl, rfl⟩ ?_ ?_ ?_
    · rintro i σ H' _ ⟨_, _, _, _, _, rfl⟩; exact hq3
    · rintro i x σ H' hx ⟨y5, y6, y7, y8, rfl, rfl⟩
      obtain ⟨qq, s, bb, rfl, hqq, hsz, hfit⟩ : ∃ qq s bb, x = V.ref qq ∧ SqT K Hf qq [V.int s, V.bl bb] ∧ s.natAbs * d.toNat ≤ 24000 ∧ decide (2 ^ (s.toNat * d.toNat) * dn 1 L ^ k ≤ 2 ^ ((-s).toNat * d.toNat) * up 1 L ^ k) = bb := by
        match i, hx with
        | 0, hx =>
          exact ⟨q1, S, true, (Option.some.inj hx).symm, hq1, by omega, decide_eq_true ((fit S).mpr (Int.le_refl _))⟩
        | 1, hx =>
          refine ⟨q2, S + 1, false, (Option.some.inj hx).symm, hq2, ?_, decide_eq_false fun z => by have := (fit (S + 1)).mp z; omega⟩
          have : (S + 1).natAbs * d.toNat ≤ (S.natAbs + 1) * d.toNat := Nat.mul_le_mul_right _ (by omega)
          rw [Nat.add_mul] at this; omega
        | j + 2, hx => cases hx
      have mx : ∀ z : Int, (if z > 0 then z else 0) * d = ((z.toNat * d.toNat : Nat) : Int) := fun z => by
        rw [Int.natCast_mul]
        congr 1
        · split <;> omega
        · omega
      have zs : s.natAbs ≤ 24000 := by
        have : s.natAbs * 1 ≤ s.natAbs * d.toNat := Nat.mul_le_mul_left _ (by omega)
        omega
      have e1 : s.toNat * d.toNat ≤ 24000 := Nat.le_trans (Nat.mul_le_mul_right _ (by omega)) hsz
      have e2 : (-s).toNat * d.toNat ≤ 24000 := Nat.le_trans (Nat.mul_le_mul_right _ (by omega)) hsz
      have w2 : ∀ j : Nat, ((2 : Int) ^ j).natAbs < 2 ^ (2 * j + 1) := fun j => pow_bits (by decide) j
      refine ⟨qq, _, rfl, hqq, rfl, _, _, rfl, _, [], rfl, rfl, ?_⟩
      refine ⟨_, rfl, 0, s, rfl, _, rfl, a, _, 0, _, rfl, rfl, ha, atI_nat (j := 0) rfl, _, _, rfl, rfl, wide_mul (a := 20) (b := 20) (by split <;> omega) (by omega) (by omega) (by omega) (by omega), 2, s.toNat * d.toNat, 2, by rw [← mx]; rfl, by decide, by omega, by omega, ?_⟩
      refine ⟨_, rfl, _, rfl, dn 1 L, k, wct L + 1, rfl, db, by omega, by omega, _, _, rfl, rfl, wide_mul (w2 _) wD (by omega) (by omega) (by omega), ?_⟩
      refine ⟨_, rfl, _, rfl, 0, -s, rfl, _, rfl, a, _, 0, _, rfl, rfl, ha, atI_nat (j := 0) rfl, _, _, rfl, rfl, wide_mul (a := 20) (b := 20) (by split <;> omega) (by omega) (by omega) (by omega) (by omega), 2, (-s).toNat * d.toNat, 2, by rw [← mx]; rfl, by decide, by omega, by omega, ?_⟩
      refine ⟨_, rfl, _, rfl, up 1 L, k, wct L + 1, rfl, ub, by omega, by omega, _, _, rfl, rfl, wide_mul (w2 _) wU (by omega) (by omega) (by omega), ?_⟩
      refine ⟨_, rfl, _, rfl, _, _, rfl, rfl, _, rfl, rfl, _, rfl, ?_⟩
      have hb : (!decide (V.bl (decide (2 ^ (s.toNat * d.toNat) * dn 1 L ^ k ≤ 2 ^ ((-s).toNat * d.toNat) * up 1 L ^ k)) = V.bl bb)) = false := by rw [hfit]; simp
      rw [hb]
      exact iteF ⟨_, _, _, _, rfl, rfl⟩
    · rintro σ H' ⟨_, _, _, _, rfl, rfl⟩
      exact ⟨_, rfl, fin _ s0f⟩
end
end K07

namespace K07
open PySem PySem.Spec PyProof.Rows L2 Ly Am
abbrev ng (L : List (Int × Int)) : List (Int × Int) := L.map fun q => (q.1, -q.2)
theorem gl_ng : ∀ (L : List (Int × Int)) (b : Int), gl b ((ng L).map (·.2)) = gl b (L.map (·.2))
  | [], _ => rfl
  | q :: r, b => by
    show gl ((Nat.gcd b.natAbs (-q.2).natAbs : Nat) : Int) ((ng r).map (·.2)) = gl ((Nat.gcd b.natAbs q.2.natAbs : Nat) : Int) (r.map (·.2))
    rw [Int.natAbs_neg, gl_ng r]
theorem cn_ng {d : Int} {L : List (Int × Int)} (c : Cn d L) : Cn d (ng L) := by
  refine ⟨c.d1, ?_, fun q hq => ?_, fun q hq => ?_, ?_⟩
  · unfold ng; rw [List.pairwise_map]; exact c.asc
  · obtain ⟨x, hx, rfl⟩ := List.mem_map.mp hq
    exact c.pr x hx
  · obtain ⟨x, hx, rfl⟩ := List.mem_map.mp hq
    have := c.nz x hx
    show -x.2 ≠ 0
    omega
  · rw [gl_ng]; exact c.gcd
theorem wct_ng (L : List (Int × Int)) : wct (ng L) = wct L := by
  unfold wct ng
  rw [List.map_map]
  congr 1
  apply List.map_congr_left
  intro q _
  show (-q.2).natAbs * _ = _
  rw [Int.natAbs_neg]
theorem Ar.ng {d : Int} {L : List (Int × Int)} (a : Ar d L) : Ar d (ng L) := by
  refine ⟨cn_ng a.cn, a.dl, fun q hq => ?_, by unfold K07.ng; rw [List.length_map]; exact a.few, fun q hq => ?_⟩
  · obtain ⟨x, hx, rfl⟩ := List.mem_map.mp hq
    exact a.key x hx
  · obtain ⟨x, hx, rfl⟩ := List.mem_map.mp hq
    have := a.par x hx
    show (-x.2).natAbs < _
    omega
theorem updn_ng : ∀ {L : List (Int × Int)}, (∀ q ∈ L, q.2 ≠ 0) → up 1 (ng L) = dn 1 L ∧ dn 1 (ng L) = up 1 L
  | [], _ => ⟨rfl, rfl⟩
  | q :: r, h => by
    obtain ⟨i1, i2⟩ := updn_ng (L := r) fun x hx => h x (List.mem_cons_of_mem _ hx)
    have q0 := h q List.mem_cons_self
    refine ⟨?_, ?_⟩
    · show (if 0 < -q.2 then q.1 ^ (1 * (-q.2).natAbs) else 1) * up 1 (ng r) = (if 0 < q.2 then 1 else q.1 ^ (1 * q.2.natAbs)) * dn 1 r
      rw [i1, Int.natAbs_neg]
      by_cases c : 0 < q.2
      · rw [if_neg (by omega), if_pos c]
      · rw [if_pos (by omega), if_neg c]
    · show (if 0 < -q.2 then 1 else q.1 ^ (1 * (-q.2).natAbs)) * dn 1 (ng r) = (if 0 < q.2 then q.1 ^ (1 * q.2.natAbs) else 1) * up 1 r
      rw [i2, Int.natAbs_neg]
      by_cases c : 0 < q.2
      · rw [if_neg (by omega), if_pos c]
      · rw [if_pos (by omega), if_neg c]
theorem sgn_ng {L : List (Int × Int)} (h : ∀ q ∈ L, q.2 ≠ 0) : sgn (ng L) = -sgn L := by
  obtain ⟨h1, h2⟩ := updn_ng h
  unfold sgn
  rw [h1, h2]
  split <;> split <;> (try split) <;> (try split) <;> omega
theorem sgn_small (L : List (Int × Int)) : (sgn L).natAbs < 2 ^ 64 ∧ (-sgn L).natAbs < 2 ^ 64 := by
  unfold sgn; split
  · omega
  · split <;> omega
theorem ig_ng (L : List (Int × Int)) (p : Int) : ig (ng L) p = -ig L p := by
  induction L with
  | nil => rfl
  | cons q r ih =>
    show ig ((q.1, -q.2) :: ng r) p = _
    rw [ig_cons, ig_cons, ih]
    split <;> rfl
theorem Ar.bd {d : Int} {L : List (Int × Int)} (a : Ar d L) : Bd d (ig L) := by
  have dl := a.dl
  refine ⟨a.cn.d1, by omega, fun p h => ?_, fun p => ?_⟩
  · rcases ig_cases L p with e | e
    · exact absurd e h
    · exact a.key _ e
  · rcases ig_cases L p with e | e
    · rw [e]; decide
    · have := a.par _ e
      have h2 : (p, ig L p).2 = ig L p := rfl
      omega
theorem cn_one {d : Int} {L : List (Int × Int)} (c : Cn d L) : Cn 1 L := by
  refine ⟨by omega, c.asc, c.pr, c.nz, ?_⟩
  have h1 := gl_pos (L.map (·.2)) 1 (by omega)
  have h2 := gl_le (L.map (·.2)) (show (0 : Int) < 1 by omega)
  omega
section
variable {K : PySem.W.Frag} {H : Hp} {p : Addr}
theorem ints_bool_rp {i j : Int} {b : Bool} (hi : i.natAbs < 2 ^ 64) (hj : j.natAbs < 2 ^ 64) (hp : SqT K H p [V.int i, V.int j, V.bl b]) :
    Dp K H (.ref p) (.tuple [.int i, .int j, .bool b]) ∧ (PyData.tuple [.int i, .int j, .bool b]).showable = true ∧ (PyData.tuple [.int i, .int j, .bool b]).hasDict = false ∧ (PyData.tuple [.int i, .int j, .bool b]).depth ≤ 60 ∧ (PyData.tuple [.int i, .int j, .bool b]).shown.length ≤ sizeLine :=
  tup_rp (c := 66) hp (.cons (.int _) (.cons (.int _) (.cons (.bl _) .nil))) (by
    intro d hd
    rcases List.mem_cons.mp hd with e | hd
    · rw [e]; exact told_int hi
    rcases List.mem_cons.mp hd with e | hd
    · rw [e]; exact told_int hj
    rw [List.mem_singleton.mp hd]; exact told_bool _) (by
    intro d hd
    rcases List.mem_cons.mp hd with e | hd
    · rw [e]; simp [PyData.depth]
    rcases List.mem_cons.mp hd with e | hd
    · rw [e]; simp [PyData.depth]
    rw [List.mem_singleton.mp hd]; simp [PyData.depth]) (by show 3 * _ + 4 ≤ _; omega)
theorem int2_rp {i j : Int} (hi : i.natAbs < 2 ^ 64) (hj : j.natAbs < 2 ^ 64) (hp : SqT K H p [V.int i, V.int j]) :
    Dp K H (.ref p) (.tuple [.int i, .int j]) ∧ (PyData.tuple [.int i, .int j]).showable = true ∧ (PyData.tuple [.int i, .int j]).hasDict = false ∧ (PyData.tuple [.int i, .int j]).depth ≤ 60 ∧ (PyData.tuple [.int i, .int j]).shown.length ≤ sizeLine :=
  tup_rp (c := 66) hp (.cons (.int _) (.cons (.int _) .nil)) (by
    intro d hd
    rcases List.mem_cons.mp hd with e | hd
    · rw [e]; exact told_int hi
    rw [List.mem_singleton.mp hd]; exact told_int hj) (by
    intro d hd
    rcases List.mem_cons.mp hd with e | hd
    · rw [e]; simp [PyData.depth]
    rw [List.mem_singleton.mp hd]; simp [PyData.depth]) (by show 2 * _ + 4 ≤ _; omega)
theorem bool2_rp (b c : Bool) (hp : SqT K H p [V.bl b, V.bl c]) :
    Dp K H (.ref p) (.tuple [.bool b, .bool c]) ∧ (PyData.tuple [.bool b, .bool c]).showable = true ∧ (PyData.tuple [.bool b, .bool c]).hasDict = false ∧ (PyData.tuple [.bool b, .bool c]).depth ≤ 60 ∧ (PyData.tuple [.bool b, .bool c]).shown.length ≤ sizeLine :=
  tup_rp (c := 66) hp (.cons (.bl _) (.cons (.bl _) .nil)) (by
    intro d hd
    rcases List.mem_cons.mp hd with e | hd
    · rw [e]; exact told_bool _
    rw [List.mem_singleton.mp hd]; exact told_bool _) (by
    intro d hd
    rcases List.mem_cons.mp hd with e | hd
    · rw [e]; simp [PyData.depth]
    rw [List.mem_singleton.mp hd]; simp [PyData.depth]) (by show 2 * _ + 4 ≤ _; omega)
end
theorem cn_nil : Cn 1 [] := ⟨by decide, .nil, nofun, nofun, rfl⟩
section
variable {P : Program} {w : World} {K : PySem.W.Frag} {mg : Str → Option Value} {base : Heap}
def spSignD (K : PySem.W.Frag) : Sp := fun vs H Q _ => ∃ (v : V) (d : Int) (L : List (Int × Int)), vs = [v] ∧ AmtAt K H v d L ∧ Ar d L ∧ wct L ≤ 20000 ∧ ∀ H', Same H H' → Q (.bl true) H'
theorem ca_L_is_sign_right (T : Tx K mg) : CaG P w K mg base 8 "_law_is_sign_right" s_L_is_sign_right ["_law_amount"] (spSignD K) := by
  have C_L_order := ca_L_order (P := P) (w := w) (base := base) T
  have C_L_formed := ca_L_formed (P := P) (w := w) (base := base) T
  have C_sign_of := ca_sign_of (P := P) (w := w) (base := base) T
  have C_is_amount := ca_is_amount (P := P) (w := w) (base := base) T
  have C_is_below := ca_is_below (P := P) (w := w) (base := base) T
  refine CaG.of (fd_L_is_sign_right T) sc_L_is_sign_right ?_ ?_
  · rintro vs H Q E ⟨v, d, L, rfl, _⟩; rfl
  · rintro f cdv A out s H vs Q E hgd hr ⟨v, d, L, rfl, am, ar, wl, q⟩
    refine ⟨_, (pss_cons (ps_set (i := 1) sc_L_is_sign_right.nd rfl (.inl rfl) (pe_ca C_L_order hr (pa_cons (pv 0) pa_nil)))
 (pss_cons (ps_if (pt_cmpR op_ne (pe_callB (cr_repr hgd hr.units) (by rfl) T.f_repr (by decide +kernel) (pa_cons (pe_tup (pa_cons (pe_ca C_sign_of hr (pa_cons (pv 0) pa_nil)) (pa_cons (pe_caK ["amount"] C_sign_of hr (pk_cons (pv 0) pk_nil) (fun _ _ _ _ _ _ us ws hl => match us, ws, hl with | [], [_], _ => rfl | [_], [], _ => rfl)) (pa_cons (pe_ca C_is_amount hr (pa_cons (pv 0) pa_nil)) pa_nil)))) pa_nil)) (pe_callB (cr_repr hgd hr.units) (by rfl) T.f_repr (by decide +kernel) (pa_cons (pe_tup (pa_cons (pv 1) (pa_cons (pv 1) (pa_cons pe_bl pa_nil)))) pa_nil)) (nomark _))
 (pss_one (ps_ret pe_bl))
 pss_nil)
 (pss_cons (ps_set (i := 2) sc_L_is_sign_right.nd rfl (.inl rfl) (pe_tup (pa_cons (pe_ix ix_tup (pv 0) pe_int (fun _ _ => rfl)) (pa_cons (pe_callTy call_tuple_of (by rfl) T.f_tuple (by decide +kernel) (pa_cons (pe_lc (own := [("_law_p", 5), ("_law_c", 6)]) rfl sc_L_is_sign_right.nd (pi_tup (pe_ix ix_tup (pv 0) pe_int (fun _ _ => rfl))) (blkOk_by (own := [("_law_p", 5), ("_law_c", 6)]) (N := n_L_is_sign_right) (sc := (defScope s_L_is_sign_right)) (by decide +kernel)) (fun _ _ _ _ _ => (pg_tupK (K := K) 2 rfl (pgs_cons (pg_name (i := 5) sc_L_is_sign_right.nd rfl (Or.inl rfl) (Or.inr rfl)) (pgs_cons (pg_name (i := 6) sc_L_is_sign_right.nd rfl (Or.inl rfl) (Or.inr rfl)) pgs_nil)))) (fun _ _ _ _ _ => pts_nil) (fun _ _ _ _ _ => (pe_tup (pa_cons (pv 5) (pa_cons (pe_un un_neg (pv 6)) pa_nil))))) pa_nil)) pa_nil))))
 (pss_cons (ps_set (i := 3) sc_L_is_sign_right.nd rfl (.inl rfl) (pe_ca C_L_formed hr (pa_cons pe_int (pa_cons (pe_callTy (call_dictP rfl) (by rfl) T.f_dict (by decide +kernel) (pa_cons (pe_callTy call_list_of (by rfl) T.f_list (by decide +kernel) (pa_cons (pe_ix ix_tup (pv 0) pe_int (fun _ _ => rfl)) pa_nil)) pa_nil)) pa_nil))))
 (pss_cons (ps_set (i := 4) sc_L_is_sign_right.nd rfl (.inl rfl) (pe_tup (pa_cons pe_int (pa_cons (pe_tup pa_nil) pa_nil))))
 (pss_cons (ps_if (pt_cmpR op_ne (pe_callB (cr_repr hgd hr.units) (by rfl) T.f_repr (by decide +kernel) (pa_cons (pe_tup (pa_cons (pe_ca C_sign_of hr (pa_cons (pv 2) pa_nil)) (pa_cons (pe_ca C_sign_of hr (pa_cons (pv 3) pa_nil)) pa_nil))) pa_nil)) (pe_callB (cr_repr hgd hr.units) (by rfl) T.f_repr (by decide +kernel) (pa_cons (pe_tup (pa_cons (pe_un un_neg (pv 1)) (pa_cons (pv 1) pa_nil))) pa_nil)) (nomark _))
 (pss_one (ps_ret pe_bl))
 pss_nil)
 (pss_one (ps_ret (pe_cmpR op_eq (pe_callB (cr_repr hgd hr.units) (by rfl) T.f_repr (by decide +kernel) (pa_cons (pe_tup (pa_cons (pe_ca C_is_below hr (pa_cons (pv 0) (pa_cons (pv 4) pa_nil))) (pa_cons (pe_caKr ["other", "one"] C_is_below hr (pk_cons (pv 0) (pk_cons (pv 4) pk_nil)) (fun _ _ _ _ _ _ ws hl => match ws, hl with | [_, _], _ => rfl)) pa_nil))) pa_nil)) (pe_callB (cr_repr hgd hr.units) (by rfl) T.f_repr (by decide +kernel) (pa_cons (pe_tup (pa_cons (pe_cmpR op_lt (pv 1) pe_int (nomark _)) (pa_cons (pe_cmpR op_gt (pv 1) pe_int (nomark _)) pa_nil))) pa_nil)) (nomark _)))))))))), ?_⟩
    have ok := ar.ok
    have f1 : Fits 10 1 L := ar.fits (by omega) (by omega)
    have fn : Fits 10 1 (ng L) := ar.ng.fits (by omega) (by rw [wct_ng]; omega)
    have okn := ar.ng.ok
    obtain ⟨sg1, sg2⟩ := sgn_small L
    have z2 : 2 ≤ sizeLine := by rw [sizeLine_eq]; omega
    have z3 : 3 ≤ sizeLine := by rw [sizeLine_eq]; omega
    refine ⟨_, rfl, v, d, L, 10, rfl, am, f1, fun H1 s1 => ?_⟩
    refine ⟨_, rfl, v, d, L, 10, rfl, am.same s1, ok, f1, fun H2 s2 => ?_⟩
    refine ⟨_, rfl, v, d, L, 10, rfl, am.same (s1.trans s2), ok, f1, fun H3 s3 => ?_⟩
    refine ⟨_, rfl, v, d, L, rfl, am.same (s1.trans (s2.trans s3)), ok, fun H4 s4 => ?_⟩
    have s04 := s1.trans (s2.trans (s3.trans s4))
    refine ⟨z3, fun t1 nt1 => ?_⟩
    have y1 := same_new (o := .tup [V.int (sgn L), V.int (sgn L), V.bl true]) nt1
    obtain ⟨r1, r2, r3, r4, r5⟩ := ints_bool_rp (K := K) (b := true) sg1 sg1 (sqT_new (p := t1) (H := H4))
    refine ⟨t1, _, rfl, r1, r2, r3, r4, r5, ?_⟩
    have s05 := s04.trans y1
    clear r1 r2 r3 r4 r5 s1 s2 s3 s4
    generalize upd H4 t1 (.tup [V.int (sgn L), V.int (sgn L), V.bl true]) = H5 at *
    refine ⟨_, rfl, _, rfl, z3, fun t2 nt2 => ?_⟩
    have y2 := same_new (o := .tup [V.int (sgn L), V.int (sgn L), V.bl true]) nt2
    obtain ⟨r1, r2, r3, r4, r5⟩ := ints_bool_rp (K := K) (b := true) sg1 sg1 (sqT_new (p := t2) (H := H5))
    refine ⟨t2, _, rfl, r1, r2, r3, r4, r5, rfl, _, rfl, ?_⟩
    rw [no_ne rfl]
    refine iteF ?_
    have s06 := s05.trans y2
    clear r1 r2 r3 r4 r5
    generalize upd H5 t2 (.tup [V.int (sgn L), V.int (sgn L), V.bl true]) = H6 at *
    -- turned
    obtain ⟨a, b, rs, ev, h1, h2, h3⟩ := am.same s06
    have rl : rs.length = L.length := Paired.length h3
    have few := ar.few
    subst ev
    refine ⟨_, rfl, a, _, 0, _, rfl, rfl, h1, atI_nat (j := 0) rfl, ?_⟩
    refine ⟨_, rfl, a, _, 1, _, rfl, rfl, h1, atI_nat (j := 1) rfl, b, rfl, ⟨_, h2⟩, fun Dl nDl => ?_⟩
    refine lc_tup (xs := rs.map V.ref) (fun i H' => ∃ us, H' Dl = some (.lst (us.map V.ref)) ∧ TrP H' us (ng (L.take i)) ∧ Same H6 H') ?_ ?_ ?_ ?_
    · exact ⟨[], upd_same, .nil, same_new nDl⟩
    · rintro i H' _ ⟨us, _, _, sm⟩; exact SqT.same sm h2
    · rintro i x H' hx ⟨us, hDl, tr, sm⟩
      obtain ⟨r, hr1, rfl⟩ := map_at hx
      obtain ⟨u, hu, hut⟩ := Paired.at' h3 hr1
      refine ⟨r, _, rfl, SqT.same sm hut, rfl, _, _, rfl, _, [], rfl, rfl, rfl, ?_⟩
      refine ⟨_, rfl, _, rfl, _, rfl, z2, fun p2 np2 => ?_⟩
      have s3 := same_new (o := .tup [V.int u.1, V.int (-u.2)]) np2
      have ul : us.length = (ng (L.take i)).length := Paired.length tr
      have ulen : us.length ≤ 20 := by
        rw [ul]; unfold ng; rw [List.length_map, List.length_take]; omega
      refine ⟨_, s3 _ _ hDl, by rw [List.length_map]; exact small1000 (by omega), us ++ [p2], ?_, ?_, same_write nDl (sm.trans s3)⟩
      · rw [upd_same, List.map_append]; rfl
      · unfold ng
        rw [take_snoc _ hu]
        have pD : p2 ≠ Dl := fun e => ne_of_none hDl np2 e.symm
        refine paired_snoc ?_ ?_
        · rw [upd_ne pD]; exact upd_same
        · exact (tr.same s3).kp (fun b o e n1 _ => by
            by_cases h : b = Dl
            · subst h; rw [s3 _ _ hDl] at e; exact absurd (Option.some.inj e).symm (n1 _)
            · rw [upd_ne h]; exact e)
    rintro H7 ⟨us, hDl, tr, sm⟩
    rw [List.length_map, rl, List.take_of_length_le (Nat.le_refl _)] at tr
    refine ⟨Dl, _, rfl, .inl ⟨.inl (.inl hDl), fun b2 nb2 => ⟨z2, fun v2 nv2 => ?_⟩⟩⟩
    have y3 := same_new (o := .tup (us.map V.ref)) nb2
    have y4 := same_new (o := .tup [V.int d, V.ref b2]) nv2
    have amt : AmtAt K (upd (upd H7 b2 (.tup (us.map V.ref))) v2 (.tup [V.int d, V.ref b2])) (.ref v2) d (ng L) := ⟨v2, b2, us, rfl, sqT_new, SqT.same y4 sqT_new, ((tr.same y3).same y4).pairs⟩
    have s68 := sm.trans (y3.trans y4)
    generalize upd (upd H7 b2 (.tup (us.map V.ref))) v2 (.tup [V.int d, V.ref b2]) = H8 at *
    clear tr hDl sm y3 y4
    have s08 := s06.trans s68
    have h1' := SqT.same s68 h1
    have h2' := SqT.same s68 h2
    -- plain
    refine ⟨_, rfl, a, _, 1, _, rfl, rfl, h1', atI_nat (j := 1) rfl, b, _, rfl, .inr h2', fun x1 nx1 => ?_⟩
    have y5 := same_new (o := .lst (rs.map V.ref)) nx1
    refine ⟨x1, rs, kd L, rfl, sqL_new, paired_kd (h3.kp (Ly.Same.kp (s68.trans y5))), fun PD nPD => ?_⟩
    rw [dict_of (asc_nodup ok.cn.asc)]
    have y6 := same_new (o := .dK (kd L)) nPD
    refine ⟨1, PD, L, rfl, by omega, by omega, upd_same, ⟨asc_nodup ok.cn.asc, ok.cn.pr⟩, by omega, fun q hq => ok.par q hq, fun vp dp Lp H9 s9 amp stp _ _ => ?_⟩
    obtain ⟨g1, g2⟩ := St4.unique stp (⟨cn_one ar.cn, fun p => rfl⟩ : St4 1 L 1 (ig L)) (by omega) (by omega) fun p => rfl
    subst g1 g2
    have ar1 : Ar 1 Lp := ⟨stp.1, by omega, ar.key, ar.few, ar.par⟩
    have s89 := y5.trans (y6.trans s9)
    have s09 := s08.trans s89
    have amt9 := amt.same s89
    -- nought
    refine ⟨by show 0 ≤ sizeLine; omega, fun p5 np5 => ⟨z2, fun p6 np6 => ?_⟩⟩
    have u5 := same_new (o := .tup []) np5
    have u6 := same_new (o := .tup [V.int 1, V.ref p5]) np6
    have am0 : AmtAt K (upd (upd H9 p5 (.tup [])) p6 (.tup [V.int 1, V.ref p5])) (.ref p6) 1 [] := ⟨p6, p5, [], rfl, sqT_new, SqT.same u6 sqT_new, .nil⟩
    have s0_10 := s09.trans (u5.trans u6)
    have amt10 := amt9.same (u5.trans u6)
    have amp10 := amp.same (u5.trans u6)
    generalize upd (upd H9 p5 (.tup [])) p6 (.tup [V.int 1, V.ref p5]) = H10 at *
    clear u5 u6 amt amt9 amp y5 y6 s9 s89 h1' h2' h1 h2 h3
    obtain ⟨sg3, sg4⟩ : (sgn (ng Lp)).natAbs < 2 ^ 64 ∧ (-sgn Lp).natAbs < 2 ^ 64 := ⟨(sgn_small _).1, sg2⟩
    have sgN : sgn (ng Lp) = -sgn Lp := sgn_ng ar.cn.nz
    refine ⟨_, rfl, .ref v2, d, ng Lp, 10, rfl, amt10, okn, fn, fun H11 s11 => ?_⟩
    refine ⟨_, rfl, vp, 1, Lp, 10, rfl, amp10.same s11, ar1.ok, ar1.fits (by omega) (by omega), fun H12 s12 => ?_⟩
    rw [sgN]
    refine ⟨z2, fun t7 nt7 => ?_⟩
    have u7 := same_new (o := .tup [V.int (-sgn Lp), V.int (sgn Lp)]) nt7
    obtain ⟨r1, r2, r3, r4, r5⟩ := int2_rp (K := K) sg2 sg1 (sqT_new (p := t7) (H := H12))
    refine ⟨t7, _, rfl, r1, r2, r3, r4, r5, ?_⟩
    clear r1 r2 r3 r4 r5
    have s0_13 := s0_10.trans (s11.trans (s12.trans u7))
    have am13 := am0.same (s11.trans (s12.trans u7))
    generalize upd H12 t7 (.tup [V.int (-sgn Lp), V.int (sgn Lp)]) = H13 at *
    refine ⟨_, rfl, _, rfl, _, rfl, z2, fun t8 nt8 => ?_⟩
    have u8 := same_new (o := .tup [V.int (-sgn Lp), V.int (sgn Lp)]) nt8
    obtain ⟨r1, r2, r3, r4, r5⟩ := int2_rp (K := K) sg2 sg1 (sqT_new (p := t8) (H := H13))
    refine ⟨t8, _, rfl, r1, r2, r3, r4, r5, rfl, _, rfl, ?_⟩
    rw [no_ne rfl]
    refine iteF ?_
    clear r1 r2 r3 r4 r5
    have s0_14 := s0_13.trans u8
    have am14 := am13.same u8
    generalize upd H13 t8 (.tup [V.int (-sgn Lp), V.int (sgn Lp)]) = H14 at *
    have amL := am.same s0_14
    have stL : St4 d Lp d (ig Lp) := ⟨ar.cn, fun p => rfl⟩
    have stN : St4 d (ng Lp) d (fun p => -ig Lp p) := ⟨ar.ng.cn, fun p => by rw [ig_ng]⟩
    have st0 : St4 1 [] d (fun _ => 0) := ⟨cn_nil, fun p => by show 0 * d = 0 * 1; omega⟩
    have dp := ar.cn.d1
    have bL := ar.bd
    have b0 : Bd d (fun _ => 0) := ⟨bL.pos, bL.bl, fun p h => absurd rfl h, fun p => by decide⟩
    have bP : Bd d (fun p => ig Lp p + -1 * (fun _ => 0) p) := by
      have e : (fun p => ig Lp p + -1 * (fun _ => 0) p) = ig Lp := by funext p; show ig Lp p + -1 * 0 = _; omega
      rw [e]; exact bL
    have bM : Bd d (fun p => (fun _ => 0) p + -1 * ig Lp p) := by
      have e : (fun p => (fun _ => 0) p + -1 * ig Lp p) = fun p => -ig Lp p := by funext p; show 0 + -1 * ig Lp p = _; omega
      rw [e]
      refine ⟨bL.pos, bL.bl, fun p h => bL.key p (fun z => h (by show -ig Lp p = 0; omega)), fun p => ?_⟩
      have := bL.par p
      show (-ig Lp p).natAbs < _
      omega
    have uP : ∀ e M, St4 e M d (fun p => ig Lp p + -1 * (fun _ => 0) p) → e = d ∧ M = Lp := fun e M st =>
      St4.unique st stL dp dp fun p => by show (ig Lp p + -1 * 0) * d = _; rw [Int.mul_zero, Int.add_zero]
    have uM : ∀ e M, St4 e M d (fun p => (fun _ => 0) p + -1 * ig Lp p) → e = d ∧ M = ng Lp := fun e M st =>
      St4.unique st stN dp dp fun p => by show (0 + -1 * ig Lp p) * d = -ig Lp p * d; rw [Int.zero_add, Int.neg_one_mul]
    obtain ⟨e1, e2⟩ := updn_ng ar.cn.nz
    refine ⟨_, rfl, _, rfl, _, _, d, ig Lp, fun _ => 0, 10, rfl, ⟨d, Lp, amL, stL⟩, ⟨1, [], am14, st0⟩, bL, b0, bP, fun e M st => ?_, fun e M H15 s15 st => ?_⟩
    · obtain ⟨g1, g2⟩ := uP e M st
      subst g1 g2; exact f1
    obtain ⟨g1, g2⟩ := uP e M st
    rw [g2]
    clear g1 g2 st
    refine ⟨_, rfl, _, rfl, _, _, d, fun _ => 0, ig Lp, 10, rfl, ⟨1, [], am14.same s15, st0⟩, ⟨d, Lp, amL.same s15, stL⟩, b0, bL, bM, fun e M st => ?_, fun e M H16 s16 st => ?_⟩
    · obtain ⟨g1, g2⟩ := uM e M st
      subst g2; exact fn
    obtain ⟨g1, g2⟩ := uM e M st
    rw [g2, e1, e2]
    clear g1 g2 st
    refine ⟨z2, fun t9 nt9 => ?_⟩
    have u9 := same_new (o := .tup [V.bl (decide (up 1 Lp < dn 1 Lp)), V.bl (decide (dn 1 Lp < up 1 Lp))]) nt9
    obtain ⟨r1, r2, r3, r4, r5⟩ := bool2_rp (K := K) (decide (up 1 Lp < dn 1 Lp)) (decide (dn 1 Lp < up 1 Lp)) (sqT_new (p := t9) (H := H16))
    refine ⟨t9, _, rfl, r1, r2, r3, r4, r5, ?_⟩
    clear r1 r2 r3 r4 r5
    generalize upd H16 t9 (.tup [V.bl (decide (up 1 Lp < dn 1 Lp)), V.bl (decide (dn 1 Lp < up 1 Lp))]) = H17 at *
    have sgb : decide (sgn Lp < 0) = decide (up 1 Lp < dn 1 Lp) ∧ decide (0 < sgn Lp) = decide (dn 1 Lp < up 1 Lp) := by
      unfold sgn
      constructor <;> (apply decide_eq_decide.mpr; split <;> (try split) <;> omega)
    refine ⟨_, rfl, _, _, rfl, rfl, _, rfl, _, _, rfl, rfl, ?_⟩
    dsimp only
    rw [sgb.1, sgb.2]
    refine ⟨z2, fun t10 nt10 => ?_⟩
    have u10 := same_new (o := .tup [V.bl (decide (up 1 Lp < dn 1 Lp)), V.bl (decide (dn 1 Lp < up 1 Lp))]) nt10
    obtain ⟨r1, r2, r3, r4, r5⟩ := bool2_rp (K := K) (decide (up 1 Lp < dn 1 Lp)) (decide (dn 1 Lp < up 1 Lp)) (sqT_new (p := t10) (H := H17))
    refine ⟨t10, _, rfl, r1, r2, r3, r4, r5, ?_⟩
    refine ⟨rfl, ?_⟩
    have := q _ (s0_14.trans (s15.trans (s16.trans (u9.trans u10))))
    simpa using this
end
end K07

namespace K07
open PySem PySem.Spec PyProof.Rows L2 Ly Am
theorem sum_ig_cons (q : Int × Int) (r : List (Int × Int)) : ∀ ps : List Int, ps.Nodup → (ps.map fun p => (ig (q :: r) p).natAbs).sum ≤ (if q.1 ∈ ps then q.2.natAbs else 0) + (ps.map fun p => (ig r p).natAbs).sum
  | [], _ => by simp
  | p :: t, nd => by
    obtain ⟨n1, n2⟩ := List.nodup_cons.mp nd
    have ih := sum_ig_cons q r t n2
    rw [List.map_cons, List.map_cons, List.sum_cons, List.sum_cons, ig_cons]
    by_cases c : p = q.1
    · subst c
      rw [if_neg n1] at ih
      rw [if_pos rfl, if_pos List.mem_cons_self]
      omega
    · rw [if_neg c]
      have e : (if q.1 ∈ p :: t then q.2.natAbs else 0) = if q.1 ∈ t then q.2.natAbs else 0 := by
        have : (q.1 ∈ p :: t) ↔ q.1 ∈ t := by
          rw [List.mem_cons]
          exact ⟨fun h => h.elim (fun z => absurd z.symm c) id, .inr⟩
        simp only [this]
      rw [e]; omega
theorem sum_ig_le : ∀ (L : List (Int × Int)) (ps : List Int), ps.Nodup → (ps.map fun p => (ig L p).natAbs).sum ≤ cost L
  | [], ps, _ => by
    have : (ps.map fun p => (ig [] p).natAbs).sum = 0 := by
      induction ps with
      | nil => rfl
      | cons p t ih => rw [List.map_cons, List.sum_cons, ih (by rename_i h; exact (List.nodup_cons.mp h).2)]; rfl
    omega
  | q :: r, ps, nd => by
    have h1 := sum_ig_cons q r ps nd
    have h2 := sum_ig_le r ps nd
    have e : cost (q :: r) = q.2.natAbs + cost r := rfl
    have : (if q.1 ∈ ps then q.2.natAbs else 0) ≤ q.2.natAbs := by split <;> omega
    omega
theorem cost_of {L L1 L2 : List (Int × Int)} {a b : Nat} (nd : (L.map (·.1)).Nodup) (h : ∀ p, (ig L p).natAbs ≤ (ig L1 p).natAbs * a + (ig L2 p).natAbs * b) : cost L ≤ cost L1 * a + cost L2 * b := by
  have h1 : ∀ M : List (Int × Int), (∀ q ∈ M, q ∈ L) → cost M ≤ ((M.map (·.1)).map fun p => (ig L1 p).natAbs).sum * a + ((M.map (·.1)).map fun p => (ig L2 p).natAbs).sum * b := by
    intro M
    induction M with
    | nil => intro _; exact Nat.zero_le _
    | cons q r ih =>
      intro hm
      have i := ih fun x hx => hm x (List.mem_cons_of_mem _ hx)
      have e : cost (q :: r) = q.2.natAbs + cost r := rfl
      have z := h q.1
      rw [ig_mem nd (hm q List.mem_cons_self)] at z
      rw [e]
      simp only [List.map_cons, List.sum_cons, Nat.add_mul]
      simp only [List.map_map] at i ⊢
      omega
  have h2 := h1 L fun q hq => hq
  have h3 := Nat.mul_le_mul_right a (sum_ig_le L1 _ nd)
  have h4 := Nat.mul_le_mul_right b (sum_ig_le L2 _ nd)
  omega
theorem AmOk.told {d : Int} {L : List (Int × Int)} (ok : AmOk d L) : Told 300000 (amtD d L) := amt_told (by have := ok.dl; have := ok.cn.d1; omega) ok.len (fun x hx => ⟨by
    obtain ⟨n, e, _, _⟩ := ok.cn.pr x hx
    have := ok.key x hx
    omega, ok.par x hx⟩)
theorem AmOk.rp {K : PySem.W.Frag} {H : Hp} {v : V} {d : Int} {L : List (Int × Int)} (ok : AmOk d L) (h : AmtAt K H v d L) :
    ∃ a, v = .ref a ∧ Dp K H (.ref a) (amtD d L) ∧ (amtD d L).showable = true ∧ (amtD d L).hasDict = false ∧ (amtD d L).depth ≤ 60 ∧ (amtD d L).shown.length ≤ sizeLine := by
  have t := ok.told
  obtain ⟨a, b, rs, e, _⟩ := id h
  exact ⟨a, e, by rw [← e]; exact h.dp, t.show_, t.dict, by have := amt_depth d L; omega, by have := t.len; rw [sizeLine_eq]; omega⟩
/-- two amounts of the law, side by side -/
structure Pr2 (d1 d2 : Int) (L1 L2 : List (Int × Int)) : Prop where
  a1 : Ar d1 L1
  a2 : Ar d2 L2
  s1 : d1 ≤ 31
  s2 : d2 ≤ 31
  c1 : cost L1 ≤ 96
  c2 : cost L2 ≤ 96
theorem Pr2.symm {d1 d2 : Int} {L1 L2 : List (Int × Int)} (h : Pr2 d1 d2 L1 L2) : Pr2 d2 d1 L2 L1 := ⟨h.a2, h.a1, h.s2, h.s1, h.c2, h.c1⟩
abbrev f1f (d2 : Int) (L1 : List (Int × Int)) : Int → Int := fun p => ig L1 p * d2
theorem Pr2.st {d1 d2 : Int} {L1 L2 : List (Int × Int)} (h : Pr2 d1 d2 L1 L2) : St4 d1 L1 (d1 * d2) (f1f d2 L1) := ⟨h.a1.cn, fun p => by show ig L1 p * (d1 * d2) = ig L1 p * d2 * d1; grind⟩
theorem Pr2.st' {d1 d2 : Int} {L1 L2 : List (Int × Int)} (h : Pr2 d1 d2 L1 L2) : St4 d2 L2 (d1 * d2) (f1f d1 L2) := ⟨h.a2.cn, fun p => by show ig L2 p * (d1 * d2) = ig L2 p * d1 * d2; grind⟩
theorem Pr2.pp {d1 d2 : Int} {L1 L2 : List (Int × Int)} (h : Pr2 d1 d2 L1 L2) : 0 < d1 * d2 ∧ d1 * d2 ≤ 961 := by
  have h1 := h.a1.cn.d1
  have h2 := h.a2.cn.d1
  exact ⟨Int.mul_pos h1 h2, Int.mul_le_mul h.s1 h.s2 (by omega) (by omega)⟩
theorem Pr2.bd1 {d1 d2 : Int} {L1 L2 : List (Int × Int)} (h : Pr2 d1 d2 L1 L2) : Bd (d1 * d2) (f1f d2 L1) := by
  obtain ⟨p1, p2⟩ := h.pp
  have b := h.a1.bd
  have h2 := h.a2.cn.d1
  have := h.s2
  refine ⟨p1, by omega, fun p z => b.key p fun e => z (by show ig L1 p * d2 = 0; rw [e, Int.zero_mul]), fun p => ?_⟩
  show (ig L1 p * d2).natAbs < _
  have i : (ig L1 p).natAbs < 2 ^ 40 := by
    rcases ig_cases L1 p with e | e
    · rw [e]; decide
    · exact h.a1.par _ e
  rw [Int.natAbs_mul]
  have := Nat.mul_le_mul (Nat.le_of_lt i) (show d2.natAbs ≤ 31 by omega)
  omega
theorem Pr2.bd2 {d1 d2 : Int} {L1 L2 : List (Int × Int)} (h : Pr2 d1 d2 L1 L2) : Bd (d1 * d2) (f1f d1 L2) := by
  have := h.symm.bd1
  rw [Int.mul_comm] at this; exact this
theorem Pr2.bdm {d1 d2 : Int} {L1 L2 : List (Int × Int)} (h : Pr2 d1 d2 L1 L2) : Bd (d1 * d2) (fun p => f1f d2 L1 p + -1 * f1f d1 L2 p) := by
  have b1 := h.bd1
  have b2 := h.bd2
  refine ⟨b1.pos, b1.bl, fun p z => ?_, fun p => ?_⟩
  · by_cases e : f1f d2 L1 p = 0
    · refine b2.key p fun e2 => z ?_
      show f1f d2 L1 p + -1 * f1f d1 L2 p = 0
      omega
    · exact b1.key p e
  · show (ig L1 p * d2 + -1 * (ig L2 p * d1)).natAbs < _
    have g : ∀ (d : Int) (L : List (Int × Int)) (e : Int), Ar d L → e.natAbs ≤ 31 → (ig L p * e).natAbs ≤ 2 ^ 40 * 31 := fun d L e a he => by
      have i : (ig L p).natAbs < 2 ^ 40 := by
        rcases ig_cases L p with e | e
        · rw [e]; decide
        · exact a.par _ e
      rw [Int.natAbs_mul]
      exact Nat.mul_le_mul (Nat.le_of_lt i) he
    have h1 := h.a1.cn.d1
    have h2 := h.a2.cn.d1
    have s1 := h.s1
    have s2 := h.s2
    have g1 := g d1 L1 d2 h.a1 (by omega)
    have g2 := g d2 L2 d1 h.a2 (by omega)
    omega
theorem Pr2.fits {d1 d2 d : Int} {L1 L2 L : List (Int × Int)} (h : Pr2 d1 d2 L1 L2) (st : St4 d L (d1 * d2) (fun p => f1f d2 L1 p + -1 * f1f d1 L2 p)) : Fits 10 1 L := by
  obtain ⟨p1, p2⟩ := h.pp
  have h1 := h.a1.cn.d1
  have h2 := h.a2.cn.d1
  have s1 := h.s1
  have s2 := h.s2
  have nd := asc_nodup st.1.asc
  have co := cost_of (L1 := L1) (L2 := L2) (a := 31) (b := 31) nd fun p => by
    have z := st.abs p1 p
    have e1 : (ig L1 p * d2).natAbs ≤ (ig L1 p).natAbs * 31 := by rw [Int.natAbs_mul]; exact Nat.mul_le_mul_left _ (by omega)
    have e2 : (ig L2 p * d1).natAbs ≤ (ig L2 p).natAbs * 31 := by rw [Int.natAbs_mul]; exact Nat.mul_le_mul_left _ (by omega)
    have e3 : (f1f d2 L1 p + -1 * f1f d1 L2 p).natAbs ≤ (ig L1 p * d2).natAbs + (ig L2 p * d1).natAbs := by
      show (ig L1 p * d2 + -1 * (ig L2 p * d1)).natAbs ≤ _
      omega
    omega
  have c1 := h.c1
  have c2 := h.c2
  have co2 : cost L ≤ 5952 := by omega
  have few : L.length ≤ cost L := by
    have g : ∀ M : List (Int × Int), (∀ q ∈ M, q.2 ≠ 0) → M.length ≤ cost M := by
      intro M
      induction M with
      | nil => intro _; exact Nat.zero_le _
      | cons q r ih =>
        intro hm
        have i := ih fun x hx => hm x (List.mem_cons_of_mem _ hx)
        have e : cost (q :: r) = q.2.natAbs + cost r := rfl
        have := hm q List.mem_cons_self
        rw [List.length_cons, e]; omega
    exact g L st.1.nz
  have ok := h.bdm.ok st
  refine ⟨fun q hq => ?_, fun q hq => ?_, by omega, by omega, fun q hq => ?_⟩
  · obtain ⟨n, e, pn, _⟩ := st.1.pr q hq
    have := pn.pos
    have := ok.key q hq
    omega
  · have := cost_mem hq
    omega
  · have := cost_mem hq
    omega
abbrev lefts (d1 d2 : Int) (L1 L2 : List (Int × Int)) : Int := up 1 L1 ^ d2.toNat * dn 1 L2 ^ d1.toNat
theorem Ar.lp {d : Int} {L : List (Int × Int)} (a : Ar d L) : ∀ q ∈ L, 0 < q.1 := fun q hq => by have := a.pos q hq; omega
theorem Pr2.lpos {d1 d2 : Int} {L1 L2 : List (Int × Int)} (h : Pr2 d1 d2 L1 L2) : 0 < lefts d1 d2 L1 L2 ∧ 0 < up 1 L2 ^ d1.toNat * dn 1 L1 ^ d2.toNat := by
  obtain ⟨u1, e1⟩ := upk_pos (k := 1) h.a1.lp
  obtain ⟨u2, e2⟩ := upk_pos (k := 1) h.a2.lp
  exact ⟨Int.mul_pos (ipp _ u1) (ipp _ e2), Int.mul_pos (ipp _ u2) (ipp _ e1)⟩
theorem Pr2.vi {d1 d2 : Int} {L1 L2 : List (Int × Int)} (h : Pr2 d1 d2 L1 L2) : ∀ p : Nat, Pr p → vi p (lefts d1 d2 L1 L2) = vi p (up 1 L2 ^ d1.toNat * dn 1 L1 ^ d2.toNat) + (f1f d2 L1 p + -1 * f1f d1 L2 p) := by
  intro p hp
  obtain ⟨u1, e1⟩ := upk_pos (k := 1) h.a1.lp
  obtain ⟨u2, e2⟩ := upk_pos (k := 1) h.a2.lp
  have w1 := vi_updn hp h.a1.lp
  have w2 := vi_updn hp h.a2.lp
  rw [ig_sum hp (asc_nodup h.a1.cn.asc) h.a1.cn.pr] at w1
  rw [ig_sum hp (asc_nodup h.a2.cn.asc) h.a2.cn.pr] at w2
  rw [vi_mul hp (ipp _ u1) (ipp _ e2), vi_mul hp (ipp _ u2) (ipp _ e1), vi_pow hp u1, vi_pow hp e2, vi_pow hp u2, vi_pow hp e1, w1, w2]
  have h1 := h.a1.cn.d1
  have h2 := h.a2.cn.d1
  rw [show ((d1.toNat : Nat) : Int) = d1 by omega, show ((d2.toNat : Nat) : Int) = d2 by omega]
  show _ = _ + (ig L1 p * d2 + -1 * (ig L2 p * d1))
  grind
theorem Pr2.below {d1 d2 d : Int} {L1 L2 L : List (Int × Int)} (h : Pr2 d1 d2 L1 L2) (st : St4 d L (d1 * d2) (fun p => f1f d2 L1 p + -1 * f1f d1 L2 p)) :
    up 1 L < dn 1 L ↔ lefts d1 d2 L1 L2 < up 1 L2 ^ d1.toNat * dn 1 L1 ^ d2.toNat :=
  (sgn_of st h.pp.1 h.lpos.1 h.lpos.2 h.vi).1
theorem Pr2.eqs {d1 d2 : Int} {L1 L2 : List (Int × Int)} (h : Pr2 d1 d2 L1 L2) : lefts d1 d2 L1 L2 = up 1 L2 ^ d1.toNat * dn 1 L1 ^ d2.toNat ↔ (amtD d1 L1).shown = (amtD d2 L2).shown := by
  have h1 := h.a1.cn.d1
  have h2 := h.a2.cn.d1
  constructor
  · intro e
    have zero : ∀ p : Nat, Pr p → ig L1 p * d2 = ig L2 p * d1 := fun p hp => by
      have z := h.vi p hp
      rw [e] at z
      have z2 : ig L1 p * d2 + -1 * (ig L2 p * d1) = 0 := by
        have : f1f d2 L1 p + -1 * f1f d1 L2 p = 0 := by omega
        exact this
      omega
    have np : ∀ (d : Int) (L : List (Int × Int)) (p : Int), Ar d L → (¬ ∃ n : Nat, p = n ∧ Pr n) → ig L p = 0 := fun d L p a c => by
      rcases ig_cases L p with g | g
      · exact g
      · obtain ⟨n, e, pn, _⟩ := a.cn.pr _ g
        exact absurd ⟨n, e, pn⟩ c
    obtain ⟨e1, e2⟩ := St4.unique (⟨h.a1.cn, fun p => rfl⟩ : St4 d1 L1 d1 (ig L1)) (⟨h.a2.cn, fun p => rfl⟩ : St4 d2 L2 d2 (ig L2)) h1 h2 fun p => by
      by_cases c : ∃ n : Nat, p = n ∧ Pr n
      · obtain ⟨n, rfl, pn⟩ := c
        exact zero n pn
      · rw [np d1 L1 p h.a1 c, np d2 L2 p h.a2 c, Int.zero_mul, Int.zero_mul]
    rw [e1, e2]
  · intro e
    obtain ⟨e1, e2⟩ := amt_inj e
    subst e1 e2
    rfl
theorem Ar.pw {d e : Int} {L : List (Int × Int)} (a : Ar d L) (c : cost L ≤ 96) (he : e ≤ 31) :
    (up 1 L).natAbs < 2 ^ 961 ∧ (dn 1 L).natAbs < 2 ^ 961 ∧ (up 1 L ^ e.toNat).natAbs < 2 ^ 30000 ∧ (dn 1 L ^ e.toNat).natAbs < 2 ^ 30000 := by
  have w := wct_le a.key
  have hL := updn_wct 1 a.lp
  obtain ⟨u10, d10⟩ := upk_pos (k := 1) a.lp
  have bN : ∀ z : Int, 0 < z → z ≤ 2 ^ (1 * wct L) → z.natAbs < 2 ^ 961 := fun z z0 hz => by
    rw [Nat.one_mul] at hz
    have g : z.natAbs ≤ 2 ^ wct L := by
      have e : ((2 : Int) ^ wct L) = ((2 ^ wct L : Nat) : Int) := by simp
      omega
    have : 2 ^ wct L < 2 ^ 961 := Nat.pow_lt_pow_right (by omega) (by omega)
    omega
  have ub := bN _ u10 hL.1
  have db := bN _ d10 hL.2
  have up2 : ∀ z : Int, z.natAbs < 2 ^ 961 → (z ^ e.toNat).natAbs < 2 ^ 30000 := fun z hz => by
    have h1 := pow_bits hz e.toNat
    have h2 : 2 ^ (961 * e.toNat + 1) ≤ 2 ^ 30000 := Nat.pow_le_pow_right (by omega) (by omega)
    exact Nat.lt_of_lt_of_le h1 h2
  exact ⟨ub, db, up2 _ ub, up2 _ db⟩
section
variable {P : Program} {w : World} {K : PySem.W.Frag} {mg : Str → Option Value} {base : Heap}
def spPairD (K : PySem.W.Frag) : Sp := fun vs H Q _ => ∃ (v1 v2 : V) (d1 d2 : Int) (L1 L2 : List (Int × Int)), vs = [v1, v2] ∧ AmtAt K H v1 d1 L1 ∧ AmtAt K H v2 d2 L2 ∧ Pr2 d1 d2 L1 L2 ∧ ∀ H', Same H H' → Q (.bl true) H'
theorem ca_L_is_pair_right (T : Tx K mg) : CaG P w K mg base 8 "_law_is_pair_right" s_L_is_pair_right ["_law_one", "_law_other"] (spPairD K) := by
  have C_L_is_near_enough := ca_L_is_near_enough (P := P) (w := w) (base := base) T
  have C_L_sides := ca_L_sides (P := P) (w := w) (base := base) T
  have C_L_power := ca_L_power (P := P) (w := w) (base := base) T
  have C_is_below := ca_is_below (P := P) (w := w) (base := base) T
  refine CaG.of (fd_L_is_pair_right T) sc_L_is_pair_right ?_ ?_
  · rintro vs H Q E ⟨v1, v2, d1, d2, L1, L2, rfl, _⟩; rfl
  · rintro f cdv A out s H vs Q E hgd hr ⟨v1, v2, d1, d2, L1, L2, rfl, am1, am2, h, q⟩
    refine ⟨_, (pss_cons (ps_if (pt_not (pt_val (pe_ca C_L_is_near_enough hr (pa_cons (pv 0) (pa_cons (pv 1) pa_nil)))))
 (pss_one (ps_ret pe_bl))
 pss_nil)
 (pss_cons (ps_asg (pe_tup (pa_cons (pe_ca C_L_sides hr (pa_cons (pv 0) pa_nil)) (pa_cons (pe_ca C_L_sides hr (pa_cons (pv 1) pa_nil)) pa_nil))) (pg_tup rfl (pgs_cons (pg_tup rfl (pgs_cons (pg_name (i := 2) sc_L_is_pair_right.nd rfl (.inl rfl)) (pgs_cons (pg_name (i := 3) sc_L_is_pair_right.nd rfl (.inl rfl)) pgs_nil))) (pgs_cons (pg_tup rfl (pgs_cons (pg_name (i := 4) sc_L_is_pair_right.nd rfl (.inl rfl)) (pgs_cons (pg_name (i := 5) sc_L_is_pair_right.nd rfl (.inl rfl)) pgs_nil))) pgs_nil))))
 (pss_cons (ps_set (i := 6) sc_L_is_pair_right.nd rfl (.inl rfl) (pe_op op_mulW (pe_ca C_L_power hr (pa_cons (pv 2) (pa_cons (pe_ix ix_tup (pv 1) pe_int (fun _ _ => rfl)) pa_nil))) (pe_ca C_L_power hr (pa_cons (pv 5) (pa_cons (pe_ix ix_tup (pv 0) pe_int (fun _ _ => rfl)) pa_nil)))))
 (pss_cons (ps_set (i := 7) sc_L_is_pair_right.nd rfl (.inl rfl) (pe_op op_mulW (pe_ca C_L_power hr (pa_cons (pv 4) (pa_cons (pe_ix ix_tup (pv 0) pe_int (fun _ _ => rfl)) pa_nil))) (pe_ca C_L_power hr (pa_cons (pv 3) (pa_cons (pe_ix ix_tup (pv 1) pe_int (fun _ _ => rfl)) pa_nil)))))
 (pss_cons (ps_if (pt_cmpR op_ne (pe_callB (cr_repr hgd hr.units) (by rfl) T.f_repr (by decide +kernel) (pa_cons (pe_tup (pa_cons (pe_ca C_is_below hr (pa_cons (pv 0) (pa_cons (pv 1) pa_nil))) (pa_cons (pe_ca C_is_below hr (pa_cons (pv 1) (pa_cons (pv 0) pa_nil))) pa_nil))) pa_nil)) (pe_callB (cr_repr hgd hr.units) (by rfl) T.f_repr (by decide +kernel) (pa_cons (pe_tup (pa_cons (pe_cmpR op_lt (pv 6) (pv 7) (nomark _)) (pa_cons (pe_cmpR op_lt (pv 7) (pv 6) (nomark _)) pa_nil))) pa_nil)) (nomark _))
 (pss_one (ps_ret pe_bl))
 pss_nil)
 (pss_one (ps_ret (pe_cmpR op_eq (pe_cmpR op_eq (pv 6) (pv 7) (nomark _)) (pe_cmpR op_eq (pe_callB (cr_repr hgd hr.units) (by rfl) T.f_repr (by decide +kernel) (pa_cons (pv 0) pa_nil)) (pe_callB (cr_repr hgd hr.units) (by rfl) T.f_repr (by decide +kernel) (pa_cons (pv 1) pa_nil)) (nomark _)) (nomark _))))))))), ?_⟩
    have ok1 := h.a1.ok
    have ok2 := h.a2.ok
    have p1 := h.a1.cn.d1
    have p2 := h.a2.cn.d1
    have m1 := h.s1
    have m2 := h.s2
    have few1 := h.a1.few
    have few2 := h.a2.few
    have w1 := wct_le h.a1.key
    have w2 := wct_le h.a2.key
    have c1 := h.c1
    have c2 := h.c2
    have z2 : 2 ≤ sizeLine := by rw [sizeLine_eq]; omega
    refine ⟨_, rfl, _, rfl, v1, v2, d1, d2, L1, L2, rfl, am1, am2, ok1, ok2, by omega, fun b H1 s1 => ?_⟩
    cases b with
    | false => exact ⟨false, rfl, iteT (q _ s1)⟩
    | true =>
      refine ⟨true, rfl, iteF ?_⟩
      have ft1 : Fits 10 1 L1 := h.a1.fits (by omega) (by omega)
      have ft2 : Fits 10 1 L2 := h.a2.fits (by omega) (by omega)
      refine ⟨_, rfl, v1, d1, L1, 10, rfl, am1.same s1, ft1, fun t1 H2 s2 ht1 => ?_⟩
      refine ⟨_, rfl, v2, d2, L2, 10, rfl, am2.same (s1.trans s2), ft2, fun t2 H3 s3 ht2 => ?_⟩
      refine ⟨z2, fun t3 nt3 => ?_⟩
      have s4 := same_new (o := .tup [V.ref t1, V.ref t2]) nt3
      have ht1' := SqT.same (s3.trans s4) ht1
      have ht2' := SqT.same s4 ht2
      refine ⟨t3, _, rfl, sqT_new, rfl, _, _, rfl, t1, _, rfl, ht1', rfl, _, _, rfl, _, [], rfl, rfl, ?_⟩
      refine ⟨_, [], rfl, t2, _, rfl, ht2', rfl, _, _, rfl, _, [], rfl, rfl, rfl, ?_⟩
      have s04 := s1.trans (s2.trans (s3.trans s4))
      generalize upd H3 t3 (.tup [V.ref t1, V.ref t2]) = H4 at *
      obtain ⟨A1, A2, A3, A4⟩ := h.a1.pw (e := d2) h.c1 m2
      obtain ⟨B1, B2, B3, B4⟩ := h.a2.pw (e := d1) h.c2 m1
      have am14 := am1.same s04
      have am24 := am2.same s04
      obtain ⟨x1, y1, rs1, e1, hx1, _, _⟩ := id am14
      obtain ⟨x2, y2, rs2, e2, hx2, _, _⟩ := id am24
      have d1t : V.int d1 = V.int ((d1.toNat : Nat) : Int) := by congr 1; clear A1 A2 A3 A4 B1 B2 B3 B4; omega
      have d2t : V.int d2 = V.int ((d2.toNat : Nat) : Int) := by congr 1; clear A1 A2 A3 A4 B1 B2 B3 B4; omega
      subst e1 e2
      refine ⟨_, rfl, _, rfl, x2, _, 0, _, rfl, rfl, hx2, atI_nat (j := 0) rfl, up 1 L1, d2.toNat, 961, by rw [← d2t]; rfl, A1, by clear A1 A2 A3 A4 B1 B2 B3 B4; omega, by clear A1 A2 A3 A4 B1 B2 B3 B4; omega, ?_⟩
      refine ⟨_, rfl, _, rfl, x1, _, 0, _, rfl, rfl, hx1, atI_nat (j := 0) rfl, dn 1 L2, d1.toNat, 961, by rw [← d1t]; rfl, B2, by clear A1 A2 A3 A4 B1 B2 B3 B4; omega, by clear A1 A2 A3 A4 B1 B2 B3 B4; omega, _, _, rfl, rfl, wide_mul A3 B4 (by clear A1 A2 A3 A4 B1 B2 B3 B4; omega) (by clear A1 A2 A3 A4 B1 B2 B3 B4; omega) (by clear A1 A2 A3 A4 B1 B2 B3 B4; omega), ?_⟩
      refine ⟨_, rfl, _, rfl, x1, _, 0, _, rfl, rfl, hx1, atI_nat (j := 0) rfl, up 1 L2, d1.toNat, 961, by rw [← d1t]; rfl, B1, by clear A1 A2 A3 A4 B1 B2 B3 B4; omega, by clear A1 A2 A3 A4 B1 B2 B3 B4; omega, ?_⟩
      refine ⟨_, rfl, _, rfl, x2, _, 0, _, rfl, rfl, hx2, atI_nat (j := 0) rfl, dn 1 L1, d2.toNat, 961, by rw [← d2t]; rfl, A2, by clear A1 A2 A3 A4 B1 B2 B3 B4; omega, by clear A1 A2 A3 A4 B1 B2 B3 B4; omega, _, _, rfl, rfl, wide_mul B3 A4 (by clear A1 A2 A3 A4 B1 B2 B3 B4; omega) (by clear A1 A2 A3 A4 B1 B2 B3 B4; omega) (by clear A1 A2 A3 A4 B1 B2 B3 B4; omega), ?_⟩
      clear A1 A2 A3 A4 B1 B2 B3 B4
      have blw := fun d L st => h.below (d := d) (L := L) st
      have blw2 : ∀ d L, St4 d L (d2 * d1) (fun p => f1f d1 L2 p + -1 * f1f d2 L1 p) → (up 1 L < dn 1 L ↔ up 1 L2 ^ d1.toNat * dn 1 L1 ^ d2.toNat < lefts d1 d2 L1 L2) := fun d L st => h.symm.below (d := d) (L := L) st
      have eqs := h.eqs
      unfold lefts at blw blw2 eqs
      dsimp only
      generalize up 1 L1 ^ d2.toNat * dn 1 L2 ^ d1.toNat = X at *
      generalize up 1 L2 ^ d1.toNat * dn 1 L1 ^ d2.toNat = Y at *
      refine ⟨_, rfl, _, rfl, _, _, d1 * d2, f1f d2 L1, f1f d1 L2, 10, rfl, ⟨d1, L1, am14, h.st⟩, ⟨d2, L2, am24, h.st'⟩, h.bd1, h.bd2, h.bdm, fun d L st => h.fits st, fun d L H5 s5 st => ?_⟩
      have e1 : decide (up 1 L < dn 1 L) = decide (X < Y) := decide_eq_decide.mpr (blw d L st)
      rw [e1]
      clear st e1
      refine ⟨_, rfl, _, rfl, _, _, d2 * d1, f1f d1 L2, f1f d2 L1, 10, rfl, ⟨d2, L2, am24.same s5, h.symm.st⟩, ⟨d1, L1, am14.same s5, h.symm.st'⟩, h.symm.bd1, h.symm.bd2, h.symm.bdm, fun d L st => h.symm.fits st, fun e M H6 s6 st => ?_⟩
      have e1 : decide (up 1 M < dn 1 M) = decide (Y < X) := decide_eq_decide.mpr (blw2 e M st)
      rw [e1]
      clear st e1
      refine ⟨z2, fun t5 nt5 => ?_⟩
      have s7 := same_new (o := .tup [V.bl (decide (X < Y)), V.bl (decide (Y < X))]) nt5
      obtain ⟨r1, r2, r3, r4, r5⟩ := bool2_rp (K := K) (decide (X < Y)) (decide (Y < X)) (sqT_new (p := t5) (H := H6))
      refine ⟨t5, _, rfl, r1, r2, r3, r4, r5, ?_⟩
      clear r1 r2 r3 r4 r5
      have s47 := s5.trans (s6.trans s7)
      generalize upd H6 t5 (.tup [V.bl (decide (X < Y)), V.bl (decide (Y < X))]) = H7 at *
      refine ⟨_, rfl, _, rfl, _, _, rfl, rfl, _, rfl, _, rfl, _, _, rfl, rfl, z2, fun t6 nt6 => ?_⟩
      have s8 := same_new (o := .tup [V.bl (decide (X < Y)), V.bl (decide (Y < X))]) nt6
      obtain ⟨r1, r2, r3, r4, r5⟩ := bool2_rp (K := K) (decide (X < Y)) (decide (Y < X)) (sqT_new (p := t6) (H := H7))
      refine ⟨t6, _, rfl, r1, r2, r3, r4, r5, rfl, _, rfl, ?_⟩
      rw [no_ne rfl]
      refine iteF ?_
      have s48 := s47.trans s8
      clear r1 r2 r3 r4 r5
      generalize upd H7 t6 (.tup [V.bl (decide (X < Y)), V.bl (decide (Y < X))]) = H8 at *
      refine ⟨_, rfl, _, rfl, rfl, ?_⟩
      obtain ⟨ra1, re1, rb1, rc1, rd1, rf1, rg1⟩ := ok1.rp (am14.same s48)
      obtain ⟨ra2, re2, rb2, rc2, rd2, rf2, rg2⟩ := ok2.rp (am24.same s48)
      refine ⟨_, rfl, ra1, _, by rw [re1], rb1, rc1, rd1, rf1, rg1, ?_⟩
      refine ⟨_, rfl, ra2, _, by rw [re2], rb2, rc2, rd2, rf2, rg2, rfl, rfl, ?_⟩
      have z := q _ (s04.trans s48)
      have hc : decide (V.bl (decide (V.int X = V.int Y)) = V.bl (decide (V.str (amtD d1 L1).shown = V.str (amtD d2 L2).shown))) = true := by
        refine decide_eq_true (congrArg V.bl (decide_eq_decide.mpr ⟨fun g => congrArg V.str (eqs.mp (V.int.inj g)), fun g => congrArg V.int (eqs.mpr (V.str.inj g))⟩))
      rw [hc]
      exact z
end
end K07

namespace K07
open PySem PySem.Spec PyProof.Rows L2 Ly Am
theorem below_steps {u1 n1 u2 n2 : Int} (pu1 : 0 < u1) (pn1 : 0 < n1) (pu2 : 0 < u2) (pn2 : 0 < n2) {k a b x y : Nat} (ha : 0 < a) (h1 : 2 ^ (x * a) * n1 ^ k ≤ 2 ^ (y * a) * u1 ^ k) (h2 : u1 ^ b * n2 ^ a ≤ u2 ^ a * n1 ^ b) :
    2 ^ (x * b) * n2 ^ k ≤ 2 ^ (y * b) * u2 ^ k := by
  have two : ∀ j : Nat, (0 : Int) < 2 ^ j := fun j => ipp j (by omega)
  apply (pow_le_iff (Int.mul_pos (two _) (ipp k pn2)) (Int.mul_pos (two _) (ipp k pu2)) ha).mp
  have A := ipl (Int.le_of_lt (Int.mul_pos (two (x * a)) (ipp k pn1))) h1 b
  have B := ipl (Int.le_of_lt (Int.mul_pos (ipp b pu1) (ipp a pn2))) h2 k
  have C := Int.mul_le_mul A B (Int.le_of_lt (ipp k (Int.mul_pos (ipp b pu1) (ipp a pn2)))) (Int.le_of_lt (ipp b (Int.mul_pos (two (y * a)) (ipp k pu1))))
  have W := Int.mul_pos (ipp (k * b) pn1) (ipp (k * b) pu1)
  refine Int.le_of_mul_le_mul_left (a := n1 ^ (k * b) * u1 ^ (k * b)) ?_ W
  simp only [Int.mul_pow, ← Int.pow_mul] at C ⊢
  rw [Nat.mul_comm b k, Nat.mul_comm a k, show x * a * b = x * b * a by rw [Nat.mul_assoc, Nat.mul_comm a, Nat.mul_assoc], show y * a * b = y * b * a by rw [Nat.mul_assoc, Nat.mul_comm a, Nat.mul_assoc]] at C
  generalize n1 ^ (k * b) = p1 at *
  generalize u1 ^ (k * b) = p2 at *
  generalize n2 ^ (k * a) = p3 at *
  generalize u2 ^ (k * a) = p4 at *
  generalize (2 : Int) ^ (x * b * a) = p5 at *
  generalize (2 : Int) ^ (y * b * a) = p6 at *
  have e1 : p1 * p2 * (p5 * p3) = p5 * p1 * (p2 * p3) := by ac_rfl
  have e2 : p1 * p2 * (p6 * p4) = p6 * p2 * (p4 * p1) := by ac_rfl
  rw [e1, e2]; exact C
/-- half the doublings of twice -/
theorem twice_steps {u n : Int} (pu : 0 < u) (pn : 0 < n) {k x y d : Nat} : 2 ^ (x * d) * n ^ k ≤ 2 ^ (y * d) * u ^ k ↔ 2 ^ (2 * x * d) * n ^ (2 * k) ≤ 2 ^ (2 * y * d) * u ^ (2 * k) := by
  have two : ∀ j : Nat, (0 : Int) < 2 ^ j := fun j => ipp j (by omega)
  rw [← pow_le_iff (Int.mul_pos (two _) (ipp k pn)) (Int.mul_pos (two _) (ipp k pu)) (show 0 < 2 by omega), Int.mul_pow, Int.mul_pow, ← Int.pow_mul, ← Int.pow_mul, ← Int.pow_mul, ← Int.pow_mul,
    Nat.mul_comm k 2, show x * d * 2 = 2 * x * d by rw [Nat.mul_comm, Nat.mul_assoc], show y * d * 2 = 2 * y * d by rw [Nat.mul_comm, Nat.mul_assoc]]
theorem twice_ok {d e1 e2 : Int} {L : List (Int × Int)} {k : Nat} (hL : ∀ q ∈ L, 0 < q.1) (dp : 0 < d) (g1 : le2 e1 (up k L) (dn k L)) (g2 : ¬ le2 (e1 + 1) (up k L) (dn k L)) (g3 : le2 e2 (up (2 * k) L) (dn (2 * k) L)) (g4 : ¬ le2 (e2 + 1) (up (2 * k) L) (dn (2 * k) L)) :
    2 * (e1 / d) ≤ e2 / d ∧ e2 / d ≤ 2 * (e1 / d) + 1 := by
  obtain ⟨u0, d0⟩ := upk_pos (k := 1) hL
  have f1 := fit_iff hL dp g1 g2
  have f2 := fit_iff hL dp g3 g4
  have tw : ∀ s : Int, s ≤ e1 / d ↔ 2 * s ≤ e2 / d := fun s => by
    rw [← f1, ← f2, show (2 * s).toNat = 2 * s.toNat by omega, show (-(2 * s)).toNat = 2 * (-s).toNat by omega]
    exact twice_steps u0 d0
  have h1 := (tw (e1 / d)).mp (Int.le_refl _)
  have h2 := tw (e1 / d + 1)
  omega
theorem below_ok {d1 d2 e1 e2 : Int} {L1 L2 : List (Int × Int)} {k : Nat} (h : Pr2 d1 d2 L1 L2) (g1 : le2 e1 (up k L1) (dn k L1)) (g2 : ¬ le2 (e1 + 1) (up k L1) (dn k L1)) (g3 : le2 e2 (up k L2) (dn k L2)) (g4 : ¬ le2 (e2 + 1) (up k L2) (dn k L2))
    (b : lefts d1 d2 L1 L2 < up 1 L2 ^ d1.toNat * dn 1 L1 ^ d2.toNat) : e1 / d1 ≤ e2 / d2 := by
  have p1 := h.a1.cn.d1
  have p2 := h.a2.cn.d1
  obtain ⟨u1, n1⟩ := upk_pos (k := 1) h.a1.lp
  obtain ⟨u2, n2⟩ := upk_pos (k := 1) h.a2.lp
  have f1 := (fit_iff h.a1.lp p1 g1 g2 (e1 / d1)).mpr (Int.le_refl _)
  exact (fit_iff h.a2.lp p2 g3 g4 (e1 / d1)).mp (below_steps u1 n1 u2 n2 (by omega) f1 (Int.le_of_lt b))
/-- a small amount on the heap -/
def SmAt (K : PySem.W.Frag) (H : Hp) (r : Addr) : Prop := ∃ d L, AmtAt K H (.ref r) d L ∧ Ar d L ∧ d ≤ 24 ∧ cost L ≤ 96
theorem SmAt.kp {K : PySem.W.Frag} {H H' : Hp} {r : Addr} (s : Kp H H') (h : SmAt K H r) : SmAt K H' r := by
  obtain ⟨d, L, h1, h2⟩ := h
  exact ⟨d, L, h1.kp s, h2⟩
theorem Ar.ct {d : Int} {L : List (Int × Int)} (a : Ar d L) : ∀ q ∈ L, 2 ≤ q.1 ∧ q.1 ≤ 1000 ∧ q.2.natAbs < 2 ^ 64 := fun q hq => ⟨a.pos q hq, a.key q hq, by have := a.par q hq; omega⟩
section
variable {P : Program} {w : World} {K : PySem.W.Frag} {mg : Str → Option Value} {base : Heap}
def spPickL (K : PySem.W.Frag) : Sp := fun vs H Q _ => ∃ (D C a : Addr) (n : Nat) (xs : List V), vs = [.ref D, .ref a] ∧ DeckAt H D C n ∧ n < 2 ^ 29 ∧ H a = some (.lst xs) ∧ a ≠ D ∧ a ≠ C ∧ 0 < xs.length ∧ xs.length ≤ 1000 ∧
  ∀ (i : Nat) (x : V) H', xs[i]? = some x → Ot D C H H' → DeckAt H' D C (n + 1) → Q x H'
theorem ca_L_pickL (T : Tx K mg) : Ca P w K mg base 2 "_law_pick" s_L_pick ["_law_deck_here", "_law_some"] (spPickL K) := by
  have C_L_draw := ca_L_draw (P := P) (w := w) (base := base) T
  refine Ca.of (fd_L_pick T) sc_L_pick ?_ ?_
  · rintro vs H Q E ⟨D, C, a, n, xs, rfl, _⟩; rfl
  · rintro f cdv A out s H vs Q E hr ⟨D, C, a, n, xs, rfl, da, hn, hT, aD, aC, l0, l1, q⟩
    refine ⟨_, (pss_one (ps_ret (pe_ix ix_list (pv 1) (pe_ca C_L_draw hr (pa_cons (pv 0) (pa_cons (pe_callB call_len_seq (by rfl) T.f_len (by decide +kernel) (pa_cons (pv 1) pa_nil)) pa_nil))) (fun _ _ => rfl)))), ?_⟩
    refine ⟨_, rfl, _, rfl, _, rfl, a, xs, rfl, .inl (.inl (.inl hT)), D, C, n, xs.length, rfl, da, by omega, by omega, by omega, fun r H' r0 r1 o da' => ?_⟩
    obtain ⟨i, rfl⟩ : ∃ i : Nat, r = i := ⟨r.toNat, by omega⟩
    have hi : i < xs.length := by omega
    have hx : xs[i]? = some xs[i] := List.getElem?_eq_getElem hi
    exact ⟨a, _, (i : Int), _, rfl, rfl, .inl (.inl (o _ _ hT aD aC)), atI_nat hx, q i _ H' hx o da'⟩
theorem fnG_ofN {x : Str} {st : Stmt} {N ps : List Str} {k : Nat} {sp : Sp} {f : Addr} {fd : FuncData} (F : FnP K x st f fd) (S : FnScope N ps (defScope st))
    (len : ∀ vs H Q E, sp vs H Q E → vs.length = ps.length)
    (hb : ∀ (cdv : Value) (A : Around) (out : List Env) (s : Shared) (H : Hp) (vs : List V) (Q : VK) (E : XK),
      A.guards = some [] → Room k (A.deeper (envOfC x (defScope st) s.heap.objs.size f cdv)) → sp vs H Q E →
      ∃ t, PSs (cxOf CX0 P w K mg base N x (defScope st) f cdv A out s H E).nox (defBody st) t ∧
        t { nx := fun _ H' => Q .non H', rt := Q } (start N vs) H) :
    FnG P w K mg base CX0 (k + 1) f fd ps sp := by
  refine fnG_of F S len ?_
  intro cdv A out s H vs Q E hgd hr h
  obtain ⟨t, h1, h2⟩ := hb cdv A out s H vs Q E hgd hr h
  exact ⟨t, h1.nox, h2⟩
def spLaw (K : PySem.W.Frag) : Sp := fun vs H Q _ => ∃ (a : Addr) (ns : List Int), vs = [.ref a] ∧ SqL K H a (ns.map V.int) ∧ ns.length ≤ 63 ∧ ∀ H', Q (.bl true) H'
theorem law_fn (T : Tx K mg) {f : Addr} {fd : FuncData} (F : FnP K "law" s_law f fd) : FnG P w K mg base CX0 10 f fd ["_law_script"] (spLaw K) := by
  have C_L_deck := ca_L_deck (P := P) (w := w) (base := base) T
  have C_L_pick := ca_L_pick (P := P) (w := w) (base := base) T
  have C_L_pickL := ca_L_pickL (P := P) (w := w) (base := base) T
  have C_L_draw := ca_L_draw (P := P) (w := w) (base := base) T
  have C_L_near := ca_L_near (P := P) (w := w) (base := base) T
  have C_L_told := ca_L_told (P := P) (w := w) (base := base) T
  have C_L_small := ca_L_small (P := P) (w := w) (base := base) T
  have C_L_cost := ca_L_cost (P := P) (w := w) (base := base) T
  have C_L_is_own_amount := ca_L_is_own_amount (P := P) (w := w) (base := base) T
  have C_L_is_sign_right := ca_L_is_sign_right (P := P) (w := w) (base := base) T
  have C_L_is_pair_right := ca_L_is_pair_right (P := P) (w := w) (base := base) T
  have C_L_are_steps_right := ca_L_are_steps_right (P := P) (w := w) (base := base) T
  have C_L_is_near_enough := ca_L_is_near_enough (P := P) (w := w) (base := base) T
  have C_is_below := ca_is_below (P := P) (w := w) (base := base) T
  refine fnG_ofN F sc_law ?_ ?_
  · rintro vs H Q E ⟨a, ns, rfl, _⟩; rfl
  · rintro cdv A out s H vs Q E hgd hr ⟨a, ns, rfl, hS, hl, q⟩
    refine ⟨_, (pss_cons (ps_set (i := 1) sc_law.nd rfl (.inr rfl) (pe_ca C_L_deck hr (pa_cons (pv 0) pa_nil)))
 (pss_cons (ps_set (i := 2) sc_law.nd rfl (.inl rfl) (pe_ca C_L_pick hr (pa_cons (pv 1) (pa_cons (pe_tup (pa_cons pe_int (pa_cons pe_int (pa_cons pe_int (pa_cons pe_int (pa_cons pe_int pa_nil)))))) pa_nil))))
 (pss_cons (ps_for PassesOwn.never rfl (pi_range1 (by rfl) T.f_range (pa_cons pe_int pa_nil)) (pg_name (i := 3) sc_law.nd rfl (.inl rfl))
 (pss_cons (ps_set (i := 4) sc_law.nd rfl (.inl rfl) (pe_ca C_L_near hr (pa_cons (pv 1) (pa_cons (pv 2) pa_nil))))
 (pss_cons (ps_if (PW.pt (pw_or (pt_cmpR op_gt (pe_ca C_L_cost hr (pa_cons (pv 4) pa_nil)) pe_int (nomark _)) (pw_or1 (pt_not (pt_val (pe_ca C_L_is_own_amount hr (pa_cons (pv 4) pa_nil)))))))
 (pss_one ps_continue)
 pss_nil)
 (pss_cons (ps_if (pt_not (pt_val (pe_caG C_L_is_sign_right hgd hr (pa_cons (pv 4) pa_nil))))
 (pss_one (ps_ret pe_bl))
 pss_nil)
 (pss_cons (ps_set (i := 5) sc_law.nd rfl (.inl rfl) (pe_op op_add pe_int (pe_ca C_L_draw hr (pa_cons (pv 1) (pa_cons pe_int pa_nil)))))
 (pss_one (ps_if (PW.pt (pw_and (pt_cmpR op_le (pe_op op_mulW (pe_ca C_L_cost hr (pa_cons (pv 4) pa_nil)) (pv 5)) pe_int (nomark _)) (pw_and1 (pt_cmpR op_isN (pe_caG C_L_are_steps_right hgd hr (pa_cons (pv 4) (pa_cons (pv 5) pa_nil))) pe_non (nomark _)))))
 (pss_one (ps_ret pe_bl))
 pss_nil)))))))
 (pss_cons (ps_if (PW.pt (pw_or (pt_not (pt_val (pe_caG C_L_is_sign_right hgd hr (pa_cons (pe_ca C_L_told hr (pa_cons (pv 1) (pa_cons pe_int (pa_cons pe_int pa_nil)))) pa_nil)))) (pw_or1 (pt_not (pt_val (pe_caG C_L_is_pair_right hgd hr (pa_cons (pe_ca C_L_told hr (pa_cons (pv 1) (pa_cons pe_int (pa_cons pe_int pa_nil)))) (pa_cons (pe_ca C_L_told hr (pa_cons (pv 1) (pa_cons pe_int (pa_cons pe_int pa_nil)))) pa_nil))))))))
 (pss_one (ps_ret pe_bl))
 pss_nil)
 (pss_cons (ps_for PassesOwn.never rfl (pi_tup (pe_tup (pa_cons pe_int (pa_cons pe_int (pa_cons (pe_un un_neg pe_int) pa_nil))))) (pg_name (i := 6) sc_law.nd rfl (.inl rfl))
 (pss_one (ps_if (pt_cmpR op_isN (pe_caG C_L_are_steps_right hgd hr (pa_cons (pe_ca C_L_told hr (pa_cons (pv 1) (pa_cons (pv 6) (pa_cons pe_int pa_nil)))) (pa_cons (pe_op op_add pe_int (pe_ca C_L_draw hr (pa_cons (pv 1) (pa_cons pe_int pa_nil)))) pa_nil))) pe_non (nomark _))
 (pss_one (ps_ret pe_bl))
 pss_nil)))
 (pss_cons (ps_setLc (i := 7) (own := [("_law_turn", 3)]) rfl sc_law.nd rfl rfl (sw_true rfl rfl rfl (by decide +kernel)) (pi_range1 (by rfl) T.f_range (pa_cons pe_int pa_nil)) (blkOk_by (own := [("_law_turn", 3)]) (N := n_law) (sc := (defScope s_law)) (by decide +kernel)) (fun _ _ _ _ _ => (pg_name (i := 3) sc_law.nd rfl (Or.inl rfl) (Or.inr rfl))) (fun _ _ _ _ _ => pts_nil) (fun _ _ _ _ _ => (pe_ca C_L_small hr (pa_cons (pv 1) pa_nil))))
 (pss_cons (ps_for PassesOwn.never rfl (pi_list (pv 7)) (pg_name (i := 8) sc_law.nd rfl (.inl rfl))
 (pss_cons (ps_par (i := 9) (j := 5) rfl sc_law.nd rfl rfl (by decide) rfl rfl (pa_cons (pe_ca C_L_pickL hr (pa_cons (pv 1) (pa_cons (pv 7) pa_nil))) (pa_cons (pe_op op_add pe_int (pe_ca C_L_draw hr (pa_cons (pv 1) (pa_cons pe_int pa_nil)))) pa_nil)) rfl)
 (pss_cons (ps_if (PW.pt (pw_or (pt_not (pt_val (pe_caG C_L_is_sign_right hgd hr (pa_cons (pv 8) pa_nil)))) (pw_or1 (pt_not (pt_val (pe_caG C_L_is_pair_right hgd hr (pa_cons (pv 8) (pa_cons (pv 9) pa_nil))))))))
 (pss_one (ps_ret pe_bl))
 pss_nil)
 (pss_cons (ps_if (PW.pt (pw_or (pt_cmpR op_gt (pe_op op_mulW (pe_op op_mulW (pe_ca C_L_cost hr (pa_cons (pv 8) pa_nil)) pe_int) (pv 5)) pe_int (nomark _)) (pw_or1 (pt_cmpR op_gt (pe_op op_mulW (pe_ca C_L_cost hr (pa_cons (pv 9) pa_nil)) (pv 5)) pe_int (nomark _)))))
 (pss_one ps_continue)
 pss_nil)
 (pss_cons (ps_par3 (i := 10) (j := 11) (l := 12) rfl sc_law.nd rfl rfl rfl (by decide) (by decide) (by decide) rfl rfl rfl (pa_cons (pe_caG C_L_are_steps_right hgd hr (pa_cons (pv 8) (pa_cons (pv 5) pa_nil))) (pa_cons (pe_caG C_L_are_steps_right hgd hr (pa_cons (pv 9) (pa_cons (pv 5) pa_nil))) (pa_cons (pe_caG C_L_are_steps_right hgd hr (pa_cons (pv 8) (pa_cons (pe_op op_mulW pe_int (pv 5)) pa_nil))) pa_nil))) rfl)
 (pss_cons (ps_if (PW.pt (pw_or (pt_cmpR op_isN (pv 10) pe_non (nomark _)) (pw_or (pt_cmpR op_isN (pv 11) pe_non (nomark _)) (pw_or (pt_cmpR op_isN (pv 12) pe_non (nomark _)) (pw_or1 (pt_not (pt_chain op_le op_le (pe_op op_mulW pe_int (pv 10)) (pv 12) (pe_op op_add (pe_op op_mulW pe_int (pv 10)) pe_int))))))))
 (pss_one (ps_ret pe_bl))
 pss_nil)
 (pss_one (ps_if (PW.pt (pw_and (pt_val (pe_ca C_L_is_near_enough hr (pa_cons (pv 8) (pa_cons (pv 9) pa_nil)))) (pw_and (pt_val (pe_ca C_is_below hr (pa_cons (pv 8) (pa_cons (pv 9) pa_nil)))) (pw_and1 (pt_cmpR op_gt (pv 10) (pv 11) (nomark _))))))
 (pss_one (ps_ret pe_bl))
 pss_nil))))))))
 (pss_one (ps_ret pe_bl))))))))), ?_⟩
    have hnn : ∀ z : Int, decide (V.int z = V.non) = false := fun z => decide_eq_false nofun
    have z5 : 5 ≤ sizeLine := by rw [sizeLine_eq]; omega
    refine ⟨_, rfl, a, ns, rfl, hS, hl, fun D C H1 s1 da1 => ?_⟩
    refine ⟨_, rfl, z5, fun tp ntp => ?_⟩
    have st := same_new (o := .tup [V.int 40, V.int 40, V.int 300, V.int 40, V.int 1500]) ntp
    refine ⟨D, C, tp, 0, _, rfl, da1.same st, by omega, sqT_new, by decide, by decide, fun j x H2 hx o2 da2 => ?_⟩
    obtain ⟨sz, rfl, sz0, sz1⟩ : ∃ sz : Int, x = V.int sz ∧ 0 < sz ∧ sz ≤ 1500 := by
      match j, hx with
      | 0, hx => exact ⟨40, (Option.some.inj hx).symm, by omega, by omega⟩
      | 1, hx => exact ⟨40, (Option.some.inj hx).symm, by omega, by omega⟩
      | 2, hx => exact ⟨300, (Option.some.inj hx).symm, by omega, by omega⟩
      | 3, hx => exact ⟨40, (Option.some.inj hx).symm, by omega, by omega⟩
      | 4, hx => exact ⟨1500, (Option.some.inj hx).symm, by omega, by omega⟩
      | j + 5, hx => cases hx
    refine ⟨3, rfl, by omega, by omega, ?_⟩
    refine for_range (lo := 0) (n := (3 : Int).toNat) (fun i σ H' => ∃ y3 y4 y5, σ = [some (.ref a), some (.ref D), some (.int sz), y3, y4, y5, none, none, none, none, none, none, none] ∧ DeckAt H' D C (1 + 30 * i)) ⟨none, none, none, rfl, da2⟩ ?_ ?_
    · rintro i σ H3 hi ⟨y3, y4, y5, rfl, da3⟩
      have i3 : i < 3 := hi
      refine ⟨_, rfl, _, rfl, D, C, 1 + 30 * i, sz, rfl, da3, by omega, sz0, sz1, fun v d L H4 o4 da4 am ar => ?_⟩
      refine ⟨_, rfl, v, d, L, rfl, am, ar.ct, by have := ar.few; omega, fun H5 s5 => ?_⟩
      refine ⟨_, _, rfl, rfl, _, rfl, ite2 (fun _ => ⟨_, _, _, rfl, (da4.same s5).mono (by omega)⟩) (fun c => ?_)⟩
      have wl : wct L ≤ 20000 := by
        have : ¬ (20000 : Int) < ((wct L : Nat) : Int) := fun z => c (decide_eq_true z)
        omega
      refine ⟨_, rfl, v, d, L, rfl, am.same s5, ar.ok, fun H6 s6 => ⟨true, rfl, iteF ?_⟩⟩
      refine ⟨_, rfl, v, d, L, rfl, am.same (s5.trans s6), ar, wl, fun H7 s7 => ⟨true, rfl, iteF ?_⟩⟩
      have s47 := s5.trans (s6.trans s7)
      have am7 := am.same s47
      have da7 := da4.same s47
      refine ⟨_, rfl, D, C, 1 + 30 * i + 20, 100, rfl, da7, by omega, by omega, by omega, fun r H8 r0 r1 o8 da8 => ⟨_, _, rfl, rfl, ?_⟩⟩
      have am8 := am7.kp (o8.kp da7)
      obtain ⟨k, rfl⟩ : ∃ k : Nat, r = k := ⟨r.toNat, by omega⟩
      refine ⟨_, rfl, v, d, L, rfl, am8, ar.ct, by have := ar.few; omega, fun H9 s9 => ?_⟩
      have fin : ∀ H', Same H8 H' → DeckAt H' D C (1 + 30 * (i + 1)) := fun H' s => (da8.same s).mono (by omega)
      refine ⟨_, rfl, _, _, rfl, rfl, wide_mul (a := 20) (b := 20) (by omega) (by omega) (by omega) (by omega) (by omega), _, _, rfl, rfl, _, rfl, ite2 (fun c2 => ?_) (fun _ => iteF ⟨_, _, _, rfl, fin _ s9⟩)⟩
      have kw : (k + 1) * wct L ≤ 20000 := by
        have z : ((wct L : Nat) : Int) * (1 + (k : Int)) ≤ 20000 := of_decide_eq_true c2
        have e : (((k + 1) * wct L : Nat) : Int) = ((wct L : Nat) : Int) * (1 + (k : Int)) := by rw [Int.natCast_mul, Int.mul_comm]; congr 1; omega
        omega
      have ek : V.int (1 + (k : Int)) = V.int ((k + 1 : Nat) : Int) := by congr 1; omega
      refine ⟨_, rfl, _, rfl, v, d, L, k + 1, by rw [← ek]; rfl, am8.same s9, ar, by omega, by omega, kw, fun e H10 s10 _ _ => ?_⟩
      refine ⟨rfl, _, rfl, ?_⟩
      rw [hnn]
      exact iteF ⟨_, _, _, rfl, fin _ (s9.trans s10)⟩
    · rintro σ H3 ⟨y3, y4, y5, rfl, da3⟩
      have wc : ∀ {d : Int} {L : List (Int × Int)}, Ar d L → cost L ≤ 60 → wct L ≤ 600 := fun {d L} a c => by have := wct_le a.key; omega
      replace da3 : DeckAt H3 D C 91 := da3
      refine ⟨_, rfl, D, C, 91, 0, 1000, rfl, da3, by omega, by omega, by omega, by omega, by omega, fun v d L H4 o4 da4 am ar dm cl => ?_⟩
      refine ⟨v, d, L, rfl, am, ar, by have := wc ar cl; omega, fun H5 s5 => ⟨true, rfl, iteF ?_⟩⟩
      have da5 := da4.same s5
      refine ⟨_, rfl, D, C, 91 + 20, 0, 31, rfl, da5, by omega, by omega, by omega, by omega, by omega, fun v1 d1 L1 H6 o6 da6 am1 ar1 dm1 cl1 => ?_⟩
      refine ⟨_, rfl, D, C, 91 + 20 + 20, 0, 31, rfl, da6, by omega, by omega, by omega, by omega, by omega, fun v2 d2 L2 H7 o7 da7 am2 ar2 dm2 cl2 => ?_⟩
      refine ⟨v1, v2, d1, d2, L1, L2, rfl, am1.kp (o7.kp da6), am2, ⟨ar1, ar2, dm1, dm2, by omega, by omega⟩, fun H8 s8 => ⟨true, rfl, iteF ?_⟩⟩
      have da8 : DeckAt H8 D C 151 := da7.same s8
      clear da7 da6 da5 da4 s8 s5 o7 o6 o4 am am1 am2 ar ar1 ar2 dm dm1 dm2 cl cl1 cl2 v v1 v2
      refine ⟨_, rfl, by show 3 ≤ sizeLine; omega, fun tq ntq => ?_⟩
      have sq := same_new (o := .tup [V.int 0, V.int 10, V.int (-10)]) ntq
      have hq := sqT_new (K := K) (H := H8) (p := tq) (xs := [V.int 0, V.int 10, V.int (-10)])
      have da9 := da8.same sq
      generalize upd H8 tq (.tup [V.int 0, V.int 10, V.int (-10)]) = H9 at *
      refine ⟨tq, rfl, ⟨_, hq⟩, ?_⟩
      refine for_tup (xs := [V.int 0, V.int 10, V.int (-10)]) (fun i σ H' => ∃ y3 y4 y5 y6, σ = [some (.ref a), some (.ref D), some (.int sz), y3, y4, y5, y6, none, none, none, none, none, none] ∧ DeckAt H' D C (151 + 30 * i) ∧ Kp H9 H') ⟨_, _, _, none, rfl, da9, fun _ _ h _ _ => h⟩ ?_ ?_ ?_
      · rintro i σ H' _ ⟨_, _, _, _, _, _, kp⟩; exact SqT.kp kp hq
      · rintro i x σ H' hx ⟨y3, y4, y5, y6, rfl, da', kp⟩
        obtain ⟨tw, rfl, t0, t1⟩ : ∃ tw : Int, x = V.int tw ∧ -10 ≤ tw ∧ tw ≤ 10 := by
          match i, hx with
          | 0, hx => exact ⟨0, (Option.some.inj hx).symm, by omega, by omega⟩
          | 1, hx => exact ⟨10, (Option.some.inj hx).symm, by omega, by omega⟩
          | 2, hx => exact ⟨-10, (Option.some.inj hx).symm, by omega, by omega⟩
          | j + 3, hx => cases hx
        have i3 : i < 3 := (List.getElem?_eq_some_iff.mp hx).1
        refine ⟨_, rfl, _, rfl, D, C, 151 + 30 * i, tw, 1000, rfl, da', by omega, t0, t1, by omega, by omega, fun v d L H4 o4 da4 am ar dm cl => ?_⟩
        refine ⟨_, rfl, D, C, 151 + 30 * i + 20, 20, rfl, da4, by omega, by omega, by omega, fun r H5 r0 r1 o5 da5 => ⟨_, _, rfl, rfl, ?_⟩⟩
        obtain ⟨k, rfl⟩ : ∃ k : Nat, r = k := ⟨r.toNat, by omega⟩
        have ek : V.int (1 + (k : Int)) = V.int ((k + 1 : Nat) : Int) := by congr 1; omega
        have kw : (k + 1) * wct L ≤ 20 * 600 := Nat.mul_le_mul (by omega) (wc ar cl)
        refine ⟨v, d, L, k + 1, by rw [← ek]; rfl, am.kp (o5.kp da4), ar, by omega, by omega, by omega, fun e H6 s6 _ _ => ?_⟩
        refine ⟨rfl, _, rfl, ?_⟩
        rw [hnn]
        exact iteF ⟨_, _, _, _, rfl, (da5.same s6).mono (by omega), (kp.trans (o4.kp da')).trans ((o5.kp da4).trans (Ly.Same.kp s6))⟩
      · rintro σ H10 ⟨z3, z4, z5', z6, rfl, da10, _⟩
        replace da10 : DeckAt H10 D C 241 := da10
        clear hq da9 sq da8
        refine ⟨(4 : Nat), rfl, by omega, by omega, fun Dl nDl => ?_⟩
        have nD1 : Dl ≠ D := by rintro rfl; obtain ⟨_, _, _, h, _⟩ := da10.ex; rw [h] at nDl; cases nDl
        have nD2 : Dl ≠ C := by rintro rfl; obtain ⟨_, _, _, _, h, _⟩ := da10.ex; rw [h] at nDl; cases nDl
        refine lc_range (lo := 0) (n := (4 : Nat)) (fun i H' => ∃ rs : List Addr, DeckAt H' D C (241 + 20 * i) ∧ H' Dl = some (.lst (rs.map V.ref)) ∧ rs.length = i ∧ ∀ r ∈ rs, SmAt K H' r) ?_ ?_ ?_
        · exact ⟨[], da10.same (same_new nDl), upd_same, rfl, by simp⟩
        · rintro i H' hi ⟨rs, da', hD, rl, rok⟩
          refine ⟨rfl, ?_⟩
          refine ⟨_, rfl, D, C, 241 + 20 * i, rfl, da', by omega, fun v d L H3 o3 da3 am ar dm cl => ?_⟩
          obtain ⟨t, _, _, rfl, _⟩ := id am
          have hD3 := o3 _ _ hD nD1 nD2
          refine ⟨_, hD3, by rw [List.length_map]; exact small1000 (by omega), rs ++ [t], ?_, ?_, ?_, ?_⟩
          · obtain ⟨cs, m, k, hh1, hh2, r⟩ := da3.ex
            exact ⟨cs, m, k, by rw [upd_ne (Ne.symm nD1)]; exact hh1, by rw [upd_ne (Ne.symm nD2)]; exact hh2, r⟩
          · rw [upd_same, List.map_append]; rfl
          · rw [List.length_append, rl]; rfl
          · have kp1 : Kp H3 (upd H3 Dl (.lst (rs.map V.ref ++ [V.ref t]))) := fun b o e n1 _ => by
              by_cases h : b = Dl
              · subst h; rw [hD3] at e; exact absurd (Option.some.inj e).symm (n1 _)
              · rw [upd_ne h]; exact e
            intro r hr2
            rcases List.mem_append.mp hr2 with h | h
            · exact ((rok r h).kp (o3.kp da')).kp kp1
            · rw [List.mem_singleton.mp h]
              exact SmAt.kp kp1 ⟨d, L, am, ar, dm, cl⟩
        rintro H2 ⟨rs, da2, hDl, rl, rok⟩
        refine ⟨_, rfl, Dl, rfl, ⟨_, .inl (.inl hDl)⟩, ?_⟩
        have len0 : 0 < (rs.map V.ref).length := by rw [List.length_map, rl]; omega
        have len1 : (rs.map V.ref).length ≤ 1000 := by rw [List.length_map, rl]; omega
        refine for_list (xs := rs.map V.ref) (fun i σ H' => ∃ y5 y8 y9 y10 y11 y12, σ = [some (.ref a), some (.ref D), some (.int sz), z3, z4, y5, z6, some (.ref Dl), y8, y9, y10, y11, y12] ∧ DeckAt H' D C (321 + 10 * i) ∧ H' Dl = some (.lst (rs.map V.ref)) ∧ ∀ r ∈ rs, SmAt K H' r) ⟨_, none, none, none, none, none, rfl, da2, hDl, rok⟩ ?_ ?_ ?_
        · rintro i σ H' _ ⟨_, _, _, _, _, _, _, _, hD, _⟩; exact .inl (.inl hD)
        · rintro i x σ H3 hx ⟨y5, y8, y9, y10, y11, y12, rfl, da3, hD3, rok3⟩
          obtain ⟨r1, hr1, rfl⟩ := map_at hx
          have i4 : i < 4 := by have := (List.getElem?_eq_some_iff.mp hr1).1; omega
          refine ⟨_, rfl, _, rfl, D, C, Dl, 321 + 10 * i, _, rfl, da3, by omega, hD3, nD1, nD2, len0, len1, fun j x2 H4 hx2 o4 da4 => ?_⟩
          obtain ⟨r2, hr2, rfl⟩ := map_at hx2
          refine ⟨_, rfl, D, C, 321 + 10 * i + 1, 20, rfl, da4, by omega, by omega, by omega, fun r H5 g0 g1 o5 da5 => ?_⟩
          obtain ⟨k, rfl⟩ : ∃ k : Nat, r = k := ⟨r.toNat, by omega⟩
          have ek : V.int (1 + (k : Int)) = V.int ((k + 1 : Nat) : Int) := by congr 1; omega
          have ek2 : V.int (2 * (1 + (k : Int))) = V.int ((2 * (k + 1) : Nat) : Int) := by congr 1; omega
          have kp5 := (o4.kp da3).trans (o5.kp da4)
          have rok5 : ∀ r ∈ rs, SmAt K H5 r := fun r h => (rok3 r h).kp kp5
          have hD5 := o5 _ _ (o4 _ _ hD3 nD1 nD2) nD1 nD2
          obtain ⟨d1, L1, am1, ar1, dm1, cl1⟩ := rok5 r1 (List.mem_of_getElem? hr1)
          obtain ⟨d2, L2, am2, ar2, dm2, cl2⟩ := rok5 r2 (List.mem_of_getElem? hr2)
          have w1 := wct_le ar1.key
          have w2 := wct_le ar2.key
          have f1 := ar1.few
          have f2 := ar2.few
          have pq : Pr2 d1 d2 L1 L2 := ⟨ar1, ar2, by omega, by omega, cl1, cl2⟩
          have fin : ∀ H', Same H5 H' → DeckAt H' D C (321 + 10 * (i + 1)) ∧ H' Dl = some (.lst (rs.map V.ref)) ∧ ∀ r ∈ rs, SmAt K H' r := fun H' sm =>
            ⟨(da5.mono (by omega)).same sm, sm _ _ hD5, fun r h => (rok5 r h).kp (Ly.Same.kp sm)⟩
          refine ⟨_, _, rfl, rfl, _, _, rfl, ?_⟩
          refine ⟨_, rfl, .ref r1, d1, L1, rfl, am1, ar1, by omega, fun H6 s6 => ⟨true, rfl, iteF ?_⟩⟩
          refine ⟨_, rfl, _, rfl, .ref r1, .ref r2, d1, d2, L1, L2, rfl, am1.same s6, am2.same s6, pq, fun H7 s7 => ⟨true, rfl, iteF ?_⟩⟩
          have s57 := s6.trans s7
          refine ⟨_, rfl, .ref r1, d1, L1, rfl, am1.same s57, ar1.ct, by omega, fun H8 s8 => ⟨_, _, rfl, rfl, wide_mul (a := 20) (b := 20) (by omega) (by omega) (by omega) (by omega) (by omega), _, rfl, _, _, rfl, rfl, wide_mul (a := 20) (b := 20) (by omega) (by omega) (by omega) (by omega) (by omega), _, _, rfl, rfl, _, rfl, ite2 (fun _ => ⟨_, _, _, _, _, _, rfl, fin _ (s57.trans s8)⟩) (fun c => ?_)⟩⟩
          have s58 := s57.trans s8
          refine ⟨_, rfl, .ref r2, d2, L2, rfl, am2.same s58, ar2.ct, by omega, fun H9 s9 => ⟨_, rfl, _, _, rfl, rfl, wide_mul (a := 20) (b := 20) (by omega) (by omega) (by omega) (by omega) (by omega), _, _, rfl, rfl, _, rfl, ite2 (fun _ => ⟨_, _, _, _, _, _, rfl, fin _ (s58.trans s9)⟩) (fun c2 => ?_)⟩⟩
          have s59 := s58.trans s9
          have c0 : ((wct L1 : Nat) : Int) * 2 * (1 + (k : Int)) ≤ 20000 := by
            have : ¬ (20000 : Int) < ((wct L1 : Nat) : Int) * 2 * (1 + (k : Int)) := fun z => c (decide_eq_true z)
            omega
          have c0' : ((wct L2 : Nat) : Int) * (1 + (k : Int)) ≤ 20000 := by
            have : ¬ (20000 : Int) < ((wct L2 : Nat) : Int) * (1 + (k : Int)) := fun z => c2 (decide_eq_true z)
            omega
          have kw3 : 2 * (k + 1) * wct L1 ≤ 20000 := by
            have e : ((2 * (k + 1) * wct L1 : Nat) : Int) = ((wct L1 : Nat) : Int) * 2 * (1 + (k : Int)) := by
              rw [Int.natCast_mul, Int.natCast_mul, Int.mul_comm, Int.mul_assoc]; congr 2; omega
            omega
          have kw2 : (k + 1) * wct L2 ≤ 20000 := by
            have e : (((k + 1) * wct L2 : Nat) : Int) = ((wct L2 : Nat) : Int) * (1 + (k : Int)) := by
              rw [Int.natCast_mul, Int.mul_comm]; congr 1; omega
            omega
          have kw1 : (k + 1) * wct L1 ≤ 20000 := by
            have e : 2 * (k + 1) * wct L1 = 2 * ((k + 1) * wct L1) := Nat.mul_assoc ..
            omega
          clear c c2 c0 c0'
          refine ⟨_, rfl, _, rfl, .ref r1, d1, L1, k + 1, by rw [← ek]; rfl, am1.same s59, ar1, by omega, by omega, kw1, fun e1 H10 s10 g2 g3 => ?_⟩
          refine ⟨_, rfl, _, rfl, .ref r2, d2, L2, k + 1, by rw [← ek]; rfl, am2.same (s59.trans s10), ar2, by omega, by omega, kw2, fun e2 H11 s11 g4 g5 => ?_⟩
          refine ⟨_, rfl, _, rfl, _, _, rfl, rfl, wide_mul (a := 20) (b := 20) (by omega) (by omega) (by omega) (by omega) (by omega), .ref r1, d1, L1, 2 * (k + 1), by rw [← ek2]; rfl, am1.same (s59.trans (s10.trans s11)), ar1, by omega, by omega, kw3, fun e3 H12 s12 g6 g7 => ?_⟩
          refine ⟨_, _, _, rfl, ?_⟩
          refine ⟨_, rfl, rfl, _, rfl, ?_⟩
          rw [hnn]; refine iteF ?_
          refine ⟨_, rfl, rfl, _, rfl, ?_⟩
          rw [hnn]; refine iteF ?_
          refine ⟨_, rfl, rfl, _, rfl, ?_⟩
          rw [hnn]; refine iteF ?_
          have s5b := s59.trans (s10.trans (s11.trans s12))
          have p1 := ar1.cn.d1
          have p2 := ar2.cn.d1
          have b1 : (e1 / d1).natAbs ≤ 20001 := Nat.le_trans (Int.natAbs_ediv_le_natAbs e1 d1) (ar1.e_small kw1 g2 g3)
          obtain ⟨t1', t2'⟩ := twice_ok ar1.lp p1 g2 g3 g6 g7
          have h1 : decide (2 * (e1 / d1) ≤ e3 / d1) = true := decide_eq_true t1'
          have h2 : decide (e3 / d1 ≤ 2 * (e1 / d1) + 1) = true := decide_eq_true t2'
          refine ⟨_, rfl, _, _, rfl, rfl, wide_mul (a := 20) (b := 20) (by omega) (by omega) (by omega) (by omega) (by omega), _, rfl, _, _, rfl, rfl, ?_⟩
          refine ⟨_, rfl, ?_⟩
          dsimp only
          rw [h1]
          refine iteT ?_
          refine ⟨_, rfl, _, _, rfl, rfl, wide_mul (a := 20) (b := 20) (by omega) (by omega) (by omega) (by omega) (by omega), _, _, rfl, rfl, _, _, rfl, rfl, _, rfl, ?_⟩
          rw [h2]
          refine iteF ?_
          refine ⟨_, rfl, _, rfl, .ref r1, .ref r2, d1, d2, L1, L2, rfl, am1.same s5b, am2.same s5b, ar1.ok, ar2.ok, by omega, fun bb H13 s13 => ?_⟩
          have s5c := s5b.trans s13
          refine ⟨bb, rfl, ite2 (fun _ => ?_) (fun _ => iteF ⟨_, _, _, _, _, _, rfl, fin _ s5c⟩)⟩
          refine ⟨_, rfl, _, rfl, .ref r1, .ref r2, d1 * d2, f1f d2 L1, f1f d1 L2, 10, rfl, ⟨d1, L1, am1.same s5c, pq.st⟩, ⟨d2, L2, am2.same s5c, pq.st'⟩, pq.bd1, pq.bd2, pq.bdm, fun d L st => pq.fits st, fun d L H14 s14 st => ?_⟩
          have s5d := s5c.trans s14
          refine ⟨_, rfl, ite2 (fun cb => ?_) (fun _ => iteF ⟨_, _, _, _, _, _, rfl, fin _ s5d⟩)⟩
          have le := below_ok pq g2 g3 g4 g5 ((pq.below st).mp (of_decide_eq_true cb))
          have h3 : decide (e2 / d2 < e1 / d1) = false := decide_eq_false (by omega)
          refine ⟨_, rfl, _, rfl, _, _, rfl, rfl, _, rfl, ?_⟩
          rw [h3]
          exact iteF ⟨_, _, _, _, _, _, rfl, fin _ s5d⟩
        · rintro σ H4 ⟨_, _, _, _, _, _, rfl, _⟩
          exact q _
end
end K07

namespace K07
open PySem PySem.Spec PyProof.Rows L2 Ly
abbrev lv : Nat := 10
theorem fin {P : Program} {w : World} {mg : Str → Option Value} {fa_ : Addr} {h hh : Heap} {K : PySem.W.Frag} (KX : K.In h) (G : h.Ns mainGlobals mg) (c : He.SaysX fa fn [] [] ex w hh K) (hmg : mg ("law" : Str) = some (.ref fa_)) :
    ∃ (K : PySem.W.Frag) (fd : FuncData) (sp : Sp), K.In h ∧ (∀ (s : Shared) (u : Value), BindsTo s fd ⟨[u], []⟩ [("_law_script", u)]) ∧
      (∀ (H : Hp) (a : Addr) (ns : List Int), ns.length ≤ 63 → Only H → SqL K H a (ns.map V.int) → sp [.ref a] H (fun v _ => v = .bl true) fun _ _ _ => False) ∧
      ∀ base : Heap, K.In base → base.Ns mainGlobals mg → FnG P w K mg base CX0 lv fa_ fd ["_law_script"] sp := by
  have T := Tx.mk_of KX G c
  obtain ⟨f, fd, F, B, B2, g⟩ := fd_law T
  have e : f = fa_ := by
    rw [hmg] at g
    have := Option.some.inj g
    cases this; rfl
  subst e
  refine ⟨K, fd, spLaw K, KX, fun s u => B2 s [u] rfl, fun H a ns hl _ hS => ⟨a, ns, rfl, hS, hl, fun _ => rfl⟩, fun base _ _ => law_fn T F⟩
end K07
namespace K07
open PySem PySem.Spec PyProof.Rows L2 Ly
abbrev R : PySem.W.OpenRow := PySem.W.OpenLaw.row PySem.Challenge.rw_toldamounts_k07_signs_and_steps_of_amoun
abbrev hk : PySem.W.Hook := He.hookX 4 fa fn [] [] ex
def ob (s : PySem.W.SharedT) : He.AlX := He.obsX 4 fa fn [] [] ex (HandSHeadRun.getT s)
theorem ob_eq (s : PySem.W.SharedT) : ob s = hk.obs s.abs := He.obsX_eq (HandSHeadRun.getT_eq s)
abbrev lz0 : List Str := ["gcd", "isqrt", "lcm", "AmountError", "BadAmount", "BadNumber", "is_integer", "is_integer_in", "is_tuple_of", "is_ascending", "is_prime", "amount_from"]
abbrev lz1 : List Str := ["combined", "power", "products_of", "ABOVE_PRIMES", "MOST_K", "is_part", "is_amount", "require_amount", "require_number", "minus", "is_below", "sign_of"]
abbrev lz2 : List Str := ["steps_of", "greatest_power", "_law_deck", "_law_draw", "_law_pick", "_law_gcd", "_law_power", "_law_is_integer", "_law_is_prime", "_law_is_own_amount", "_law_sides", "_law_is_near_enough"]
abbrev lz3 : List Str := ["_law_cost", "_law_formed", "_law_near", "_law_told", "_law_small", "_law_order", "_law_is_sign_right", "_law_is_pair_right", "_law_are_steps_right"]
abbrev lo : List Str := lz0 ++ lz1 ++ lz2 ++ lz3
theorem run (w : World) : HandSHeadRun.RunEqI R (PySem.W.view R.prog [0, 49]) hk ob 6000 lo w := by
  unfold HandSHeadRun.RunEqI
  kernel_rfl
end K07
open PySem PySem.W PySem.Calls PyProof.Rows
theorem PySem.Challenge.cw_toldamounts_k07_signs_and_steps_of_amoun_holds : PySem.Challenge.rw_toldamounts_k07_signs_and_steps_of_amoun.Holds := by
  w_on; o_law
  refine HandSHeadRun.head_imp (r := OpenLaw.row PySem.Challenge.rw_toldamounts_k07_signs_and_steps_of_amoun) (q := view (OpenLaw.row PySem.Challenge.rw_toldamounts_k07_signs_and_steps_of_amoun).prog [0, 49]) (H := K07.hk) (ob := K07.ob) (M := 6000) (loose := K07.lo) (d := HandSHeadRun.topDef (OpenLaw.row PySem.Challenge.rw_toldamounts_k07_signs_and_steps_of_amoun).prog 49) (kwd := []) K07.ob_eq
    K07.run (by kernel_rfl) (by kernel_rfl) (by kernel_rfl) (by rfl) (by first | assumption | decide +kernel) (by decide +kernel) ⟨rfl, rfl, rfl, rfl, rfl, by decide +kernel⟩ ?hw ?hc
  case hw => w_witness2
  case hc =>
    refine Ly.walk_ofG (l := PySem.Challenge.rw_toldamounts_k07_signs_and_steps_of_amoun) (n := 63) (k := K07.lv) (x := "_law_script") rfl (by decide) (by kernel_rfl) ⟨rfl, by decide, by decide⟩ ?_
    intro w mg fa h Y G hmg0
    obtain ⟨K, KX, c⟩ := Y
    have hmg : mg ("law" : PySem.Str) = some (.ref fa) := by
      have e : (HandSHeadRun.topDef (OpenLaw.row PySem.Challenge.rw_toldamounts_k07_signs_and_steps_of_amoun).prog 49).name = ("law" : PySem.Str) := by kernel_rfl
      rw [← e]
      exact hmg0
    exact K07.fin KX G c hmg

